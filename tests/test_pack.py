"""Point 9: pack."""

import unittest

from asking import CLASH, NONE, PLAN, ask, ask_of, check, live, load, pack, plain

CHAIN = "in a 2;let b 2=map a;out c 2=turn b;"


class PackTest(unittest.TestCase):
    def assert_packs(self, text, *cases):
        for plan, expected in cases:
            given, packed, checked = ask_of(text, check(*plan), pack(*plan), check(*expected))
            self.assertEqual((given, packed, checked), ([0], [0] + list(expected), [0]), (text, plan))

    def assert_refuses(self, text, refusal, *plans):
        for plan in plans:
            self.assertEqual(ask_of(text, pack(*plan)), [refusal], (text, plan))

    def test_none_comes_first(self):
        for plan in ((), (0,), (0, 0), (-1,), (10001,)):
            self.assertEqual(ask(pack(*plan)), [NONE])

    def test_the_plan_is_looked_at_before_a_clash(self):
        great = 10 ** 18
        plans = ((), (0, 0), (0, 0, 0, 0), (0, 0, -1), (0, 0, 10001), (0, 0, great), (-great, 0, 0), (0, -1, 4))
        self.assert_refuses("in a 2;in b 2;in c 2;", PLAN, *plans)

    def test_clash(self):
        self.assert_refuses("in a 2;in b 2;", CLASH, (0, 0), (0, 1), (1, 0), (10000, 9999))
        self.assert_refuses(CHAIN, CLASH, (0, 0, 0), (0, 1, 8), (0, 2, 3))

    def test_program_without_statements(self):
        self.assertEqual(ask_of("", pack(), pack(0)), [[0], PLAN])

    def test_one_array(self):
        self.assert_packs("in a 5;", ((0,), (0,)), ((3,), (0,)), ((10000,), (0,)))

    def test_groups_of_one_in_order_of_their_offsets(self):
        self.assert_packs(
            "in a 2;in b 3;in c 4;",
            ((50, 100, 200), (0, 2, 5)), ((100, 50, 200), (3, 0, 5)), ((200, 100, 50), (7, 4, 0)),
            ((100, 200, 50), (4, 6, 0)), ((2, 4, 10000), (0, 2, 5)),
        )

    def test_arrays_that_do_not_meet_may_share(self):
        self.assert_packs("in a 2;let b 2=turn a;let c 2=turn b;", ((0, 10, 20), (0, 2, 0)), ((20, 0, 10), (2, 0, 2)))
        self.assert_packs("in a 2;let b 2=turn a;let c 2=turn b;", ((10, 20, 0), (0, 2, 0)), ((20, 10, 0), (0, 2, 0)))

    def test_group_of_two(self):
        self.assert_packs(CHAIN, ((10, 10, 50), (0, 0, 2)), ((0, 0, 2), (0, 0, 2)))

    def test_group_stays_together_though_its_arrays_would_fit_lower_apart(self):
        # a does not meet c, but b does, and sits on a.
        self.assert_packs(CHAIN, ((50, 50, 10), (2, 2, 0)), ((50, 60, 10), (0, 2, 0)))
        # Here it is a that has something in its way, and b that could lie lower.
        text = "in x 3;in a 2;let b 2=map a;"
        self.assert_packs(text, ((0, 10, 10), (0, 3, 3)), ((0, 10, 12), (0, 3, 0)))

    def test_groups_of_the_shortest_and_the_longest_arrays(self):
        for size in (1, 64):
            text = f"in a {size};let b {size}=map a;out c {size}=turn b;"
            self.assert_packs(text, ((90, 90, 10), (size, size, 0)), ((90, 200, 10), (0, size, 0)))

    def test_arrays_that_may_take_over_but_lie_apart_stay_apart(self):
        self.assert_packs("in a 2;let b 2=map a;", ((0, 2), (0, 2)), ((2, 0), (2, 0)), ((7, 90), (0, 2)))

    def test_arrays_at_one_offset_are_no_group_by_that_alone(self):
        # a and c lie at one offset, but neither may take over the other; only a meets x.
        self.assert_packs("in a 2;in x 3;let b 2=turn a;let c 2=turn b;", ((10, 0, 20, 10), (3, 0, 5, 0)))
        self.assert_packs("in a 2;in x 3;let b 3=map a;let c 2=map b;", ((10, 0, 20, 10), (3, 0, 5, 0)))

    def test_groups_of_more(self):
        chain = "in a 2;let b 2=map a;let c 2=map b;out d 2=map c;"
        self.assert_packs(
            chain,
            ((9, 9, 9, 9), (0, 0, 0, 0)), ((9, 9, 7, 7), (2, 2, 0, 0)), ((7, 9, 9, 7), (0, 2, 2, 0)),
            ((7, 7, 7, 9), (0, 0, 0, 2)), ((9, 7, 7, 7), (2, 0, 0, 0)),
        )

    def test_array_at_one_end_of_a_long_group_keeps_it_all_up(self):
        # Only d meets x, which lies lower; a, b and c go where d goes.
        text = "in a 2;let b 2=map a;let c 2=map b;out d 2=map c;out x 3=turn d;"
        self.assert_packs(text, ((9, 9, 9, 9, 1), (3, 3, 3, 3, 0)), ((9, 9, 9, 20, 1), (0, 0, 0, 3, 0)))
        # And only a meets y.
        text = "in y 3;in a 2;let b 2=map a;let c 2=map b;out d 2=map c;"
        self.assert_packs(text, ((0, 9, 9, 9, 9), (0, 3, 3, 3, 3)), ((0, 9, 9, 9, 20), (0, 3, 3, 3, 0)))

    def test_group_whose_numbers_do_not_follow_one_another(self):
        text = "in a 2;in b 2;let c 2=map b;let d 2=map a;out e 2=map c d;"
        self.assert_packs(
            text,
            ((4, 20, 20, 4, 4), (0, 2, 2, 0, 0)), ((20, 4, 4, 20, 4), (2, 0, 0, 2, 0)),
            ((20, 4, 4, 20, 20), (2, 0, 0, 2, 2)),
        )

    def test_order_goes_by_offset_and_not_by_number(self):
        text = "in a 3;in b 2;let c 3=map a;out d 2=map b c;"
        self.assert_packs(text, ((5, 0, 5, 0), (2, 0, 2, 0)), ((0, 5, 0, 5), (0, 3, 0, 3)))

    def test_groups_at_one_offset(self):
        # Groups at one offset never meet, so all of them get the same as if they were alone.
        text = "in a 2;let b 3=turn a;let c 2=turn b;let d 3=turn c;"
        self.assert_packs(text, ((8, 20, 8, 20), (0, 2, 0, 2)), ((20, 8, 20, 8), (3, 0, 3, 0)))
        text = "in a 2;let b 2=map a;let c 4=turn b;let d 3=turn c;out e 3=map d;"
        self.assert_packs(text, ((9, 9, 50, 9, 9), (0, 0, 3, 0, 0)), ((50, 50, 9, 50, 50), (4, 4, 0, 4, 4)))

    def test_gap_that_is_just_wide_enough_and_one_that_is_not(self):
        # d meets a and c; between them b has left a gap of 3.
        for length, offset in ((3, 2), (4, 6)):
            text = f"in a 2;in b 3;in c 1;let d {length}=turn a c;"
            self.assert_packs(text, ((0, 2, 5, 90), (0, 2, 5, offset)), ((10, 20, 30, 90), (0, 2, 5, offset)))

    def test_arrays_without_elements(self):
        self.assert_packs("in z 0;", ((0,), (0,)), ((10000,), (0,)))
        self.assert_packs("in z 0;let y 0=map z;", ((7, 7), (0, 0)), ((7, 8), (0, 0)))
        text = "in a 2;in z 0;in b 3;let y 0=map z;out c 2=map a;"
        self.assert_packs(text, ((10, 10, 12, 11, 10), (0, 0, 2, 0, 0)), ((10, 5, 5, 5, 12), (3, 0, 0, 0, 0)))

    def test_plan_that_is_packed_already(self):
        inputs = "".join(f"in a{k} 64;" for k in range(24))
        behind = tuple(range(0, 1536, 64))
        self.assert_packs(inputs, (behind, behind), (behind[::-1], behind[::-1]))
        self.assert_packs("in a 2;let b 2=map a;let c 5=turn b;", ((0, 0, 2), (0, 0, 2)), ((5, 5, 0), (5, 5, 0)))

    def test_24_arrays_far_apart(self):
        inputs = "".join(f"in a{k} 64;" for k in range(24))
        self.assert_packs(inputs, (tuple(range(800, 10400, 400)), tuple(range(0, 1536, 64))))
        chain = "in a0 64;" + "".join(f"let a{k} 64=map a{k - 1};" for k in range(1, 24))
        self.assert_packs(chain, ((10000,) * 24, (0,) * 24))

    def test_it_changes_nothing(self):
        before = ask_of(CHAIN, plain(), live())
        for plan in ((10, 10, 50), (0, 0, 0), (0,), (-1, 0, 0)):
            self.assertEqual(ask_of(CHAIN, pack(*plan), plain(), live())[1:], before)

    def test_it_follows_the_program(self):
        self.assertEqual(
            ask(load("in a 2;in b 3;"), pack(9, 4), load("in a 2;in b 5;"), pack(9, 4), load("?"), pack(9, 4)),
            [[2, 2], [0, 3, 0], [2, 2], [0, 5, 0], [-2], [0, 5, 0]],
        )


if __name__ == "__main__":
    unittest.main()
