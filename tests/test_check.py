"""Point 6: check."""

import unittest

from asking import NONE, PLAN, ask, ask_of, check, live, plain

CHAIN = "in a 4;let b 4=map a;out c 4=map b;"


class CheckTest(unittest.TestCase):
    def assert_checks(self, text, *cases):
        for plan, expected in cases:
            self.assertEqual(ask_of(text, check(*plan)), [expected], (text, plan))

    def test_none_comes_before_plan(self):
        self.assertEqual(ask(check()), [NONE])
        self.assertEqual(ask(check(0, 0)), [NONE])
        self.assertEqual(ask(check(-1)), [NONE])
        self.assertEqual(ask(check(10001)), [NONE])

    def test_program_without_statements(self):
        self.assert_checks("", ((), [0]), ((0,), PLAN))

    def test_plans_too_short_and_too_long(self):
        self.assert_checks(CHAIN, ((), PLAN), ((0, 4), PLAN), ((0, 4, 8, 12), PLAN), ((0,) * 1000, PLAN))

    def test_offsets(self):
        great = 10 ** 18
        self.assert_checks(
            "in a 4;",
            ((-1,), PLAN), ((0,), [0]), ((10000,), [0]), ((10001,), PLAN), ((great,), PLAN), ((-great,), PLAN),
        )
        self.assert_checks(CHAIN, ((0, 4, -1), PLAN), ((0, 10001, 8), PLAN), ((10000, 0, 10000), [0]))

    def test_offset_of_an_array_without_elements_is_looked_at(self):
        self.assert_checks("in a 0;", ((-1,), PLAN), ((10001,), PLAN), ((10000,), [0]))

    def test_plan_comes_before_a_clash(self):
        self.assert_checks("in a 4;in b 4;in c 4;", ((0, 0, -1), PLAN), ((0, 0), PLAN), ((0, 0, 4), [1, 0, 1]))

    def test_where_places_begin_and_end(self):
        self.assert_checks(
            "in a 3;in b 5;",
            ((0, 3), [0]), ((0, 2), [1, 0, 1]), ((5, 0), [0]), ((4, 0), [1, 0, 1]), ((2, 0), [1, 0, 1]),
            ((0, 0), [1, 0, 1]), ((10, 5), [0]), ((9, 5), [1, 0, 1]), ((2, 5), [0]), ((3, 5), [1, 0, 1]),
        )

    def test_arrays_that_do_not_meet_may_share(self):
        self.assert_checks("in a 4;let b 4=map a;let c 4=map b;", ((0, 4, 0), [0]), ((0, 4, 2), [1, 1, 2]))
        self.assert_checks("in a 4;in b 4;let c 4=turn b;", ((0, 4, 0), [0]), ((0, 4, 1), [1, 1, 2]))

    def test_arrays_meet_at_a_single_time(self):
        self.assert_checks("in a 4;let b 4=turn a;", ((0, 0), [1, 0, 1]), ((0, 4), [0]))
        self.assert_checks("in a 4;in b 4;", ((0, 0), [1, 0, 1]))

    def test_which_pair_is_told(self):
        inputs = "in a 2;in b 2;in c 2;in d 2;"
        self.assert_checks(
            inputs,
            ((0, 0, 0, 0), [1, 0, 1]), ((0, 2, 0, 0), [1, 0, 2]), ((0, 2, 2, 0), [1, 0, 3]),
            ((6, 0, 0, 0), [1, 1, 2]), ((6, 0, 2, 0), [1, 1, 3]), ((6, 8, 0, 1), [1, 2, 3]),
            ((0, 4, 4, 1), [1, 0, 3]),
        )

    def test_taking_over_at_the_same_offset_and_at_another(self):
        self.assert_checks(
            CHAIN,
            ((0, 0, 0), [0]), ((7, 7, 7), [0]), ((0, 1, 8), [1, 0, 1]), ((1, 0, 8), [1, 0, 1]),
            ((0, 4, 4), [0]), ((0, 4, 5), [1, 1, 2]), ((0, 4, 3), [1, 1, 2]), ((0, 4, 0), [0]),
        )

    def test_one_of_several_operands_may_be_taken_over(self):
        text = "in a 3;in b 3;in c 2;let d 3=map a b c;"
        self.assert_checks(
            text,
            ((0, 3, 6, 0), [0]), ((0, 3, 6, 3), [0]), ((0, 3, 6, 6), [1, 2, 3]), ((0, 3, 6, 8), [0]),
            ((0, 0, 6, 0), [1, 0, 1]), ((0, 3, 6, 1), [1, 0, 3]),
        )

    def test_what_may_not_be_taken_over(self):
        cases = (
            "in a 4;let b 4=turn a;",
            "in a 4;let b 3=map a;",
            "in a 3;let b 4=map a;",
            "in a 4;let b 4=map a;let c 1=map a;",
            "in a 4;in x 4;let b 4=map x;let c 1=map a;",
        )
        plans = ((0, 0), (0, 0), (0, 0), (0, 0, 8), (0, 8, 0, 16))
        clashes = ([0, 1], [0, 1], [0, 1], [0, 1], [0, 2])
        for text, plan, pair in zip(cases, plans, clashes, strict=True):
            self.assert_checks(text, (plan, [1] + pair))

    def test_an_out_is_never_taken_over(self):
        self.assert_checks("in a 4;out b 4=map a;out c 4=map b;", ((0, 0, 0), [1, 1, 2]), ((0, 0, 4), [0]))

    def test_an_out_may_take_over(self):
        self.assert_checks("in a 4;out b 4=map a;", ((0, 0), [0]), ((0, 1), [1, 0, 1]))

    def test_operand_that_stands_twice_may_be_taken_over(self):
        self.assert_checks("in a 4;let b 4=map a a;", ((0, 0), [0]))

    def test_arrays_without_elements_never_clash(self):
        self.assert_checks(
            "in a 0;in b 4;in c 0;let d 0=turn a b;out e 4=turn b c;",
            ((0, 0, 0, 0, 4), [0]), ((2, 0, 3, 1, 4), [0]), ((5, 0, 5, 5, 2), [1, 1, 4]),
        )

    def test_it_changes_nothing(self):
        text = "in a 2;in b 2;"
        before = ask_of(text, plain(), live())
        for plan in ((0, 0), (0, 2), (0,), (-1, 0)):
            self.assertEqual(ask_of(text, check(*plan), plain(), live())[1:], before)


if __name__ == "__main__":
    unittest.main()
