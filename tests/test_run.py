"""Point 11: run, by plans that are not sound too."""

import unittest

from asking import MISSING, NONE, PLAN, apart, ask, ask_of, check, load, plan, run, set_data


class RunTest(unittest.TestCase):
    def assert_runs(self, text, data, *cases):
        calls = [set_data(n, *numbers) for n, numbers in enumerate(data)]
        for offsets, expected in cases:
            answer = ask_of(text, *calls, run(*offsets))[-1]
            self.assertEqual(answer, [0] + expected, (text, offsets))

    def assert_not_sound(self, text, *plans):
        for offsets in plans:
            self.assertEqual(ask_of(text, check(*offsets))[0][0], 1, (text, offsets))

    def test_none_comes_first(self):
        for offsets in ((), (0,), (-1,), (10001,), (0,) * 1000):
            self.assertEqual(ask(run(*offsets)), [NONE])

    def test_plan_comes_before_missing(self):
        great = 10 ** 18
        plans = ((), (0,), (0, 0, 0), (-1, 0), (0, -1), (10001, 0), (0, 10001), (great, 0), (0, -great))
        for offsets in plans:
            answers = ask_of("in a 1;out b 1=map a;", run(*offsets), set_data(0, 5), run(*offsets))
            self.assertEqual(answers, [PLAN, [0], PLAN], offsets)

    def test_missing(self):
        text = "in a 1;in b 0;out c 1=map a;"
        self.assertEqual(
            ask_of(text, run(0, 0, 0), set_data(0, 5), run(0, 0, 0), set_data(1), run(0, 0, 0)),
            [MISSING, [0], MISSING, [0], [0, 1, 12]],
        )
        self.assertEqual(ask_of("in a 0;", run(0), set_data(0), run(0)), [MISSING, [0], [0]])
        self.assertEqual(ask_of("in a 1;in b 1;", set_data(1, 5), run(0, 0)), [[0], MISSING])

    def test_missing_comes_for_plans_that_are_not_sound_too(self):
        self.assertEqual(ask_of("in a 1;in b 1;", run(0, 0), run(0, 1)), [MISSING, MISSING])

    def test_program_without_statements(self):
        self.assertEqual(ask_of("", run(), run(0)), [[0], PLAN])

    def test_program_without_outs(self):
        self.assert_runs("in a 2;let b 2=map a;", [(1, 2)], ((0, 0), []), ((0, 1), []))

    def test_sound_plans_give_what_apart_gives(self):
        text = "in a 2;let b 2=map a;let c 3=turn b a;out d 2=map b;out e 3=map c d;"
        # b 8 9, c 11+9+4 12+8+2 13+9+4, d 15 16, e 7+24+30 7+22+32 7+26+30
        expected = [2, 15, 16, 3, 61, 61, 63]
        plans = ((0, 2, 4, 7, 9), (0, 2, 4, 2, 4), (5, 0, 2, 0, 2), (10000, 0, 40, 0, 40), (9, 7, 4, 2, 10))
        for offsets in plans:
            self.assertEqual(ask_of(text, check(*offsets)), [[0]], offsets)
        self.assert_runs(text, [(1, 2)], *[(offsets, expected) for offsets in plans])
        self.assertEqual(ask_of(text, set_data(0, 1, 2), apart())[1], [0] + expected)

    def test_highest_places(self):
        self.assert_runs("in a 64;out b 64=map a;", [range(64)], ((10000, 10000), [64] + list(range(7, 71))))
        self.assert_runs("in a 1;in b 1;out c 1=map a b;", [(1,), (2,)], ((9999, 10000, 0), [1, 12]))

    def test_turn_where_its_operand_lies(self):
        text = "in a 2;out b 2=turn a;"
        self.assert_not_sound(text, (0, 0), (1, 0), (0, 1))
        # At 0 0: 11+6 is written to a's first place, and then 12+17 worked out of it.
        self.assert_runs(text, [(5, 6)], ((0, 0), [2, 17, 29]), ((1, 0), [2, 17, 17]), ((0, 1), [2, 17, 17]))
        self.assert_runs(text, [(5, 6)], ((0, 2), [2, 17, 17]), ((7, 7), [2, 17, 29]))

    def test_map_one_place_above_its_operand(self):
        text = "in a 3;out b 3=map a;"
        self.assert_not_sound(text, (0, 1), (1, 0), (0, 2))
        # At 0 1 each element is worked out of the one that was written just before.
        self.assert_runs(
            text, [(1, 2, 3)],
            ((0, 1), [3, 8, 15, 22]), ((1, 0), [3, 8, 9, 10]), ((0, 2), [3, 8, 9, 15]), ((0, 3), [3, 8, 9, 10]),
        )

    def test_map_of_another_length_where_its_operand_lies(self):
        text = "in a 2;out b 4=map a;"
        self.assert_not_sound(text, (0, 0))
        # 7+5 and 7+6 are written, then 7+12 and 7+13 are worked out of them.
        self.assert_runs(text, [(5, 6)], ((0, 0), [4, 12, 13, 19, 20]), ((4, 0), [4, 12, 13, 12, 13]))
        self.assert_runs("in a 3;out b 2=map a;", [(5, 6, 7)], ((0, 0), [2, 12, 13]), ((0, 1), [2, 12, 19]))

    def test_map_of_an_operand_that_is_needed_later(self):
        text = "in a 2;let b 2=map a;out c 2=map a b;"
        self.assert_not_sound(text, (0, 0, 2))
        self.assert_runs(text, [(1, 2)], ((0, 0, 2), [2, 31, 34]), ((0, 2, 0), [2, 24, 27]), ((0, 2, 4), [2, 24, 27]))

    def test_array_that_was_written_over_by_another(self):
        text = "in a 2;let b 2=turn a;out c 2=map a;"
        self.assert_not_sound(text, (0, 0, 2))
        self.assert_runs(text, [(5, 6)], ((0, 0, 2), [2, 24, 36]), ((0, 2, 0), [2, 12, 13]))

    def test_second_operand_lies_where_the_array_is_made(self):
        text = "in a 2;in b 3;out c 3=map a b;"
        # c lies one above b: 7+1+2*10, then 7+2+2*28, then 7+1+2*65.
        self.assert_runs(text, [(1, 2), (10, 20, 30)], ((9, 0, 1), [3, 28, 65, 138]), ((9, 0, 0), [3, 28, 49, 68]))

    def test_inputs_are_written_over_one_another(self):
        text = "in a 2;in b 2;out c 4=map a b;"
        self.assert_not_sound(text, (0, 1, 3), (1, 0, 3), (0, 0, 2))
        # At 0 1, a is 1 3; at 1 0, a is 4 2; at 0 0, a is what b is.
        self.assert_runs(
            text, [(1, 2), (3, 4)],
            ((0, 1, 3), [4, 14, 18, 14, 18]), ((1, 0, 3), [4, 17, 17, 17, 17]), ((0, 0, 2), [4, 16, 19, 16, 19]),
            ((0, 2, 4), [4, 14, 17, 14, 17]),
        )

    def test_inputs_are_written_in_their_order_whichever_was_set_first(self):
        text = "in a 1;in b 1;out c 1=map a;"
        self.assertEqual(ask_of(text, set_data(1, 20), set_data(0, 10), run(0, 0, 1))[-1], [0, 1, 27])
        self.assertEqual(ask_of(text, set_data(0, 10), set_data(1, 20), run(0, 0, 1))[-1], [0, 1, 27])

    def test_outs_are_read_at_the_end(self):
        text = "in a 1;out b 2=map a;out c 2=turn a;"
        self.assert_not_sound(text, (0, 1, 1), (0, 1, 2), (0, 2, 1))
        self.assert_runs(
            text, [(5,)],
            ((0, 1, 3), [2, 12, 12, 2, 16, 17]), ((0, 1, 1), [2, 16, 17, 2, 16, 17]),
            ((0, 1, 2), [2, 12, 16, 2, 16, 17]), ((0, 2, 1), [2, 17, 12, 2, 16, 17]),
        )
        # A let is worked behind the out and over it.
        self.assert_runs("in a 1;out b 1=map a;let c 1=turn a;", [(5,)], ((0, 1, 1), [1, 16]), ((0, 1, 2), [1, 12]))

    def test_array_that_is_written_over_its_operand_stays_written(self):
        # b is made over a, and c still finds at a's place what b left there.
        self.assert_runs("in a 1;out b 1=map a;out c 1=map a b;", [(5,)], ((0, 0, 1), [1, 12, 1, 43]))

    def test_every_array_at_0(self):
        text = "in a 2;in b 1;let c 3=turn a b;out d 2=map c a;out e 3=turn d d b;"
        memory = [3, 2, 0]
        # In the order of writing: c's three elements, d's two, e's three.
        memory[0] = 11 + 0 + memory[1] + 2 * memory[0]
        memory[1] = 11 + 1 + memory[0] + 2 * memory[0]
        memory[2] = 11 + 2 + memory[1] + 2 * memory[0]
        memory[0] = 7 + memory[0] + 2 * memory[0]
        memory[1] = 7 + memory[1] + 2 * memory[1]
        memory[0] = 11 + 0 + memory[1] + 2 * memory[1] + 3 * memory[0]
        memory[1] = 11 + 1 + memory[0] + 2 * memory[0] + 3 * memory[0]
        memory[2] = 11 + 2 + memory[1] + 2 * memory[1] + 3 * memory[0]
        self.assert_runs(text, [(1, 2), (3,)], ((0, 0, 0, 0, 0), [2] + memory[:2] + [3] + memory))

    def test_arrays_without_elements_lie_anywhere(self):
        text = "in z 0;in a 1;let y 0=map a z;out x 0=turn y;out b 1=map z a y;"
        self.assert_runs(
            text, [(), (5,)],
            ((10000, 0, 10000, 10000, 1), [0, 1, 17]), ((0, 0, 0, 0, 0), [0, 1, 17]), ((3, 0, 5, 9, 0), [0, 1, 17]),
        )

    def test_each_run_begins_anew(self):
        text = "in a 2;out b 2=turn a;"
        self.assertEqual(
            ask_of(text, set_data(0, 5, 6), run(0, 0), run(0, 0), run(0, 2), apart(), run(0, 0)),
            [[0], [0, 2, 17, 29], [0, 2, 17, 29], [0, 2, 17, 17], [0, 2, 17, 17], [0, 2, 17, 29]],
        )

    def test_it_follows_the_program(self):
        self.assertEqual(
            ask(
                load("in a 1;out b 1=map a;"), set_data(0, 1), run(0, 1),
                load("in a 1;out b 1=turn a;"), run(0, 1), set_data(0, 1), run(0, 1), plan(1),
            )[2:],
            [[0, 1, 8], [2, 1], MISSING, [0], [0, 1, 12], [0, 0, 1]],
        )


if __name__ == "__main__":
    unittest.main()
