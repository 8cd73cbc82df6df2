"""Point 7: room."""

import unittest

from asking import NONE, PLAN, ask, ask_of, live, load, plain, room


class RoomTest(unittest.TestCase):
    def assert_rooms(self, text, *cases):
        for plan, expected in cases:
            self.assertEqual(ask_of(text, room(*plan)), [expected], (text, plan))

    def test_none_comes_before_plan(self):
        for plan in ((), (0,), (-1,), (10001,), (0,) * 1000):
            self.assertEqual(ask(room(*plan)), [NONE])

    def test_no_arrays(self):
        self.assert_rooms("", ((), [0]), ((0,), PLAN))

    def test_the_plan_is_looked_at(self):
        great = 10 ** 18
        self.assert_rooms(
            "in a 2;in b 0;",
            ((), PLAN), ((0,), PLAN), ((0, 0, 0), PLAN), ((-1, 0), PLAN), ((0, -1), PLAN), ((10001, 0), PLAN),
            ((0, 10001), PLAN), ((great, 0), PLAN), ((0, -great), PLAN), ((0, 10000), [2]), ((10000, 0), [10002]),
        )

    def test_offset_and_length_are_added(self):
        self.assert_rooms("in a 3;", ((0,), [3]), ((1,), [4]), ((9999,), [10002]))
        self.assert_rooms("in a 64;", ((10000,), [10064]))

    def test_the_greatest_sum_is_not_always_the_greatest_offsets(self):
        self.assert_rooms("in a 9;in b 1;", ((0, 5), [9]), ((0, 8), [9]), ((0, 9), [10]), ((3, 4), [12]))
        self.assert_rooms("in a 1;in b 9;in c 2;", ((5, 0, 6), [9]), ((5, 0, 8), [10]), ((9, 0, 0), [10]))

    def test_the_greatest_sum_wherever_it_stands(self):
        text = "in a 2;let b 2=map a;out c 2=map b;"
        self.assert_rooms(text, ((8, 4, 0), [10]), ((4, 8, 0), [10]), ((0, 4, 8), [10]))

    def test_arrays_without_elements_count_nothing(self):
        self.assert_rooms("in a 0;", ((0,), [0]), ((10000,), [0]))
        self.assert_rooms("in a 0;in b 4;out c 0=map a;", ((10000, 3, 9000), [7]), ((0, 0, 0), [4]))

    def test_plan_that_is_not_sound_has_a_room_too(self):
        self.assert_rooms("in a 4;in b 4;", ((0, 0), [4]), ((2, 3), [7]))

    def test_it_changes_nothing(self):
        text = "in a 2;in b 2;"
        before = ask_of(text, plain(), live())
        for plan in ((0, 0), (0, 2), (0,), (-1, 0)):
            self.assertEqual(ask_of(text, room(*plan), plain(), live())[1:], before)

    def test_it_follows_the_program(self):
        self.assertEqual(
            ask(load("in a 5;"), room(1), load("in a 7;"), room(1), load("?"), room(1)),
            [[1, 1], [6], [1, 1], [8], [-2], [8]],
        )


if __name__ == "__main__":
    unittest.main()
