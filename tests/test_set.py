"""Point 10: set, which is called set_data in the interface."""

import unittest

from asking import (
    ABSENT, DATA, FORM, LIMIT, LONG, MISSING, NAME, NONE, PLAN, apart, ask, ask_of, check, live, load, need, pack,
    plain, plan, room, run, set_data, where,
)

TEXT = "in a 2;in b 1;let c 2=map a;out d 2=map c b;"
GREAT = 10 ** 18


class SetTest(unittest.TestCase):
    def test_none_comes_first(self):
        for call in (set_data(0), set_data(0, 1), set_data(-1), set_data(0, -1), set_data(GREAT, *range(1000))):
            self.assertEqual(ask(call), [NONE])
        self.assertEqual(ask(load("?"), set_data(0, 1)), [FORM, NONE])

    def test_absent(self):
        for n in (-1, -2, 2, 3, 4, 24, GREAT, -GREAT):
            self.assertEqual(ask_of(TEXT, set_data(n, 1, 2), set_data(n)), [ABSENT, ABSENT], n)
        self.assertEqual(ask_of("", set_data(0)), [ABSENT])

    def test_absent_comes_before_data(self):
        for n in (-1, 2, 3, 4, GREAT):
            self.assertEqual(ask_of(TEXT, set_data(n, -1), set_data(n, *range(1000))), [ABSENT, ABSENT], n)

    def test_each_inputs_number(self):
        text = "".join(f"in a{k} 1;" for k in range(23)) + "out b 1=map a0;"
        self.assertEqual(ask_of(text, *[set_data(n, 5) for n in range(25)]), [[0]] * 23 + [ABSENT] * 2)
        inputs = "".join(f"in a{k} 1;" for k in range(24))
        self.assertEqual(ask_of(inputs, set_data(23, 5), set_data(24, 5)), [[0], ABSENT])

    def test_data_too_short_and_too_long(self):
        self.assertEqual(
            ask_of(TEXT, *[set_data(0, *[1] * count) for count in (0, 1, 2, 3, 1000)]),
            [DATA, DATA, [0], DATA, DATA],
        )
        self.assertEqual(ask_of(TEXT, set_data(1), set_data(1, 7), set_data(1, 7, 7)), [DATA, [0], DATA])

    def test_greatest_length(self):
        text = "in a 64;out b 64=map a;"
        self.assertEqual(ask_of(text, set_data(0, *[1] * 63), set_data(0, *[1] * 65)), [DATA, DATA])
        expected = [0, 64] + list(range(7, 71))
        self.assertEqual(ask_of(text, set_data(0, *range(64)), apart()), [[0], expected])

    def test_numbers_of_the_data(self):
        for number, answer in (
            (-1, DATA), (0, [0]), (1, [0]), (1000002, [0]), (1000003, DATA), (GREAT, DATA), (-GREAT, DATA),
        ):
            self.assertEqual(ask_of(TEXT, set_data(0, number, 0), set_data(0, 0, number)), [answer] * 2, number)

    def test_input_of_length_0(self):
        text = "in a 0;out b 1=map a;"
        self.assertEqual(
            ask_of(text, set_data(0, 0), apart(), run(0, 0), set_data(0), apart(), run(0, 0)),
            [DATA, MISSING, MISSING, [0], [0, 1, 7], [0, 1, 7]],
        )

    def test_later_data_count(self):
        text = "in a 2;out b 2=map a;"
        self.assertEqual(
            ask_of(text, set_data(0, 1, 2), apart(), set_data(0, 30, 40), apart(), run(0, 0)),
            [[0], [0, 2, 8, 9], [0], [0, 2, 37, 47], [0, 2, 37, 47]],
        )

    def test_each_input_has_its_own_data(self):
        text = "in a 1;in b 1;out c 1=map a;out d 1=map b;"
        self.assertEqual(
            ask_of(text, set_data(1, 20), apart(), set_data(0, 10), apart(), set_data(1, 21), apart()),
            [[0], MISSING, [0], [0, 1, 17, 1, 27], [0], [0, 1, 17, 1, 28]],
        )

    def test_refused_set_leaves_the_data(self):
        text = "in a 2;out b 2=map a;"
        refused = (
            set_data(0), set_data(0, 3), set_data(0, 3, 4, 5), set_data(0, 3, -1), set_data(0, 1000003, 4),
            set_data(-1, 3, 4), set_data(1, 3, 4), set_data(2, 3, 4), set_data(GREAT, 3, 4),
        )
        for call in refused:
            self.assertEqual(ask_of(text, set_data(0, 1, 2), call, apart())[2], [0, 2, 8, 9], call)
            self.assertEqual(ask_of(text, call, apart())[1], MISSING, call)

    def test_load_takes_the_data_away(self):
        text = "in a 1;out b 1=map a;"
        self.assertEqual(
            ask(load(text), set_data(0, 5), apart(), load(text), apart(), run(0, 0), set_data(0, 6), apart()),
            [[2, 1], [0], [0, 1, 12], [2, 1], MISSING, MISSING, [0], [0, 1, 13]],
        )
        self.assertEqual(
            ask(load(text), set_data(0, 5), load(""), apart(), load("in a 0;"), apart())[2:],
            [[0, 0], [0], [1, 1], MISSING],
        )

    def test_refused_load_leaves_the_data(self):
        text = "in a 1;out b 1=map a;"
        for wrong, refusal in ((" " * 4097, LONG), ("in a 1;?", FORM), ("in a 1;in a 1;", NAME)):
            self.assertEqual(
                ask(load(text), set_data(0, 5), load(wrong), apart(), run(0, 0)),
                [[2, 1], [0], refusal, [0, 1, 12], [0, 1, 12]],
            )

    def test_other_calls_leave_the_data(self):
        text = "in a 2;out b 2=turn a;"
        others = (
            where("in z 3;"), where("?"), plain(), live(), need(), check(0, 0), check(0), room(0, 0), room(), plan(0),
            plan(1), plan(2), plan(3), pack(4, 9), pack(0, 0), pack(0), run(0, 2), run(0, 0), run(0), apart(),
        )
        for call in others:
            self.assertEqual(ask_of(text, set_data(0, 1, 2), call, apart(), run(0, 2))[2:], [[0, 2, 13, 13]] * 2, call)

    def test_set_changes_nothing_else(self):
        before = ask_of(TEXT, plain(), live(), need(), plan(1))
        for call in (set_data(0, 1, 2), set_data(0, 1), set_data(9)):
            self.assertEqual(ask_of(TEXT, call, plain(), live(), need(), plan(1))[1:], before)

    def test_refusals_of_other_calls_stay(self):
        self.assertEqual(
            ask_of(TEXT, set_data(0, 1, 2), set_data(1, 3), plan(3), run(0), run(0, 0, 0, 10001), check(0)),
            [[0], [0], LIMIT, PLAN, PLAN, PLAN],
        )


if __name__ == "__main__":
    unittest.main()
