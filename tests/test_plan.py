"""Point 8: plan."""

import unittest

from asking import LIMIT, NONE, ask, ask_of, check, live, load, plain, plan

INPUTS_OF_64 = "".join(f"in a{k} 64;" for k in range(24))


class PlanTest(unittest.TestCase):
    def assert_plans(self, text, **kinds):
        for kind, expected in kinds.items():
            k = int(kind.removeprefix("kind"))
            self.assertEqual(ask_of(text, plan(k), check(*expected)), [[0] + expected, [0]], (text, k))

    def test_none_comes_before_limit(self):
        for k in (-1, 0, 1, 2, 3, 10 ** 18, -10 ** 18):
            self.assertEqual(ask(plan(k)), [NONE])

    def test_limit(self):
        for text in ("", "in a 2;"):
            for k in (-1, 3, 4, -2, 10 ** 18, -10 ** 18):
                self.assertEqual(ask_of(text, plan(k)), [LIMIT], k)

    def test_program_without_statements(self):
        self.assertEqual(ask_of("", plan(0), plan(1), plan(2)), [[0], [0], [0]])

    def test_one_array(self):
        self.assert_plans("in a 5;", kind0=[0], kind1=[0], kind2=[0])

    def test_each_kind_by_itself(self):
        # b is not needed behind time 0, so c may lie there; d is made right where a lies.
        text = "in a 2;in b 3;let c 3=turn a;out d 2=map a c;"
        self.assert_plans(text, kind0=[0, 2, 5, 8], kind1=[0, 2, 2, 0], kind2=[3, 0, 0, 3])

    def test_kind_0_never_shares(self):
        self.assert_plans("in a 4;let b 4=map a;out c 4=map b;", kind0=[0, 4, 8])
        self.assert_plans("in a 1;in b 64;let c 2=map a;", kind0=[0, 1, 65])

    def test_kind_0_with_arrays_without_elements(self):
        self.assert_plans("in a 2;in b 0;in c 3;let d 0=map a;out e 1=map c;", kind0=[0, 2, 2, 5, 5])
        self.assert_plans("in a 0;in b 3;in c 0;", kind0=[0, 0, 3])

    def test_arrays_without_elements_lie_at_0_in_kinds_1_and_2(self):
        text = "in a 2;in b 0;in c 3;let d 0=map a;out e 1=map c;"
        self.assert_plans(text, kind1=[0, 0, 2, 0, 0], kind2=[3, 0, 0, 0, 3])
        self.assert_plans("in a 0;let b 0=map a;out c 0=turn b;", kind1=[0, 0, 0], kind2=[0, 0, 0])

    def test_arrays_without_elements_are_in_nobodys_way(self):
        self.assert_plans("in z 0;in a 4;out y 0=map z;out b 4=turn a;", kind1=[0, 0, 0, 4], kind2=[0, 0, 0, 4])

    def test_gap_that_is_just_wide_enough_and_one_that_is_not(self):
        self.assert_plans("in a 2;in b 3;in c 1;let d 3=turn a c;", kind1=[0, 2, 5, 2])
        self.assert_plans("in a 2;in b 3;in c 1;let d 4=turn a c;", kind1=[0, 2, 5, 6])
        self.assert_plans("in a 2;in b 3;let c 2=turn b;", kind1=[0, 2, 0])
        self.assert_plans("in a 2;in b 3;let c 3=turn b;", kind1=[0, 2, 5])

    def test_the_lowest_of_two_gaps(self):
        text = "in a 2;in b 1;in c 3;in d 1;let e 2=turn b d;"
        self.assert_plans(text, kind1=[0, 2, 3, 6, 0])
        text = "in a 1;in b 1;in c 3;in d 1;let e 2=turn b d;"
        self.assert_plans(text, kind1=[0, 1, 2, 5, 2])

    def test_an_array_may_lie_across_several_that_are_gone(self):
        self.assert_plans("in a 2;in b 2;in c 2;let d 5=map c;out e 5=turn d;", kind1=[0, 2, 4, 6, 0])

    def test_taking_over(self):
        self.assert_plans("in a 4;let b 4=map a;out c 4=map b;", kind1=[0, 0, 0], kind2=[0, 0, 0])
        self.assert_plans("in a 4;let b 4=turn a;out c 4=turn b;", kind1=[0, 4, 0], kind2=[0, 4, 0])
        self.assert_plans("in a 4;let b 3=map a;", kind1=[0, 4], kind2=[0, 4])
        self.assert_plans("in a 4;let b 4=map a;let c 1=map a;", kind1=[0, 4, 4], kind2=[0, 4, 4])
        self.assert_plans("in a 4;out b 4=map a;out c 4=map b;", kind1=[0, 0, 4], kind2=[0, 0, 4])

    def test_taking_over_by_the_shortest_and_the_longest_arrays(self):
        for size in (1, 64):
            text = f"in a {size};in b {size};let c {size}=map b;out d {size}=map a c;"
            self.assert_plans(text, kind1=[0, size, size, 0], kind2=[0, size, size, 0])

    def test_taking_over_at_an_offset_above_0(self):
        self.assert_plans("in a 2;in b 2;let c 2=map b;out d 2=map a c;", kind1=[0, 2, 2, 0], kind2=[0, 2, 2, 0])
        self.assert_plans("in a 3;in b 2;let c 2=map b;let d 1=map a;", kind1=[0, 3, 3, 3], kind2=[0, 3, 3, 3])

    def test_an_operand_is_not_taken_over_where_there_is_room_below(self):
        self.assert_plans("in x 2;in a 2;let b 2=map a;", kind1=[0, 2, 0])
        self.assert_plans("in x 1;in a 2;let b 2=map a;", kind1=[0, 1, 1])

    def test_another_array_lies_in_the_way_of_taking_over(self):
        # x, the longest, lies at 0; a never meets it and lies there too; b may take over a, but meets x.
        text = "in a 2;let b 2=map a;let x 5=turn b;out y 1=map x b;"
        self.assert_plans(text, kind1=[0, 0, 2, 7], kind2=[0, 5, 0, 7])

    def test_kind_2_takes_the_longest_first(self):
        self.assert_plans("in a 1;in b 2;in c 3;", kind1=[0, 1, 3], kind2=[5, 3, 0])
        self.assert_plans("in a 2;in b 10;in c 3;", kind2=[13, 0, 10])

    def test_kind_2_where_several_have_one_length(self):
        self.assert_plans("in a 1;in b 3;in c 3;in d 1;in e 3;", kind2=[9, 0, 3, 10, 6])
        self.assert_plans("in a 2;in b 2;in c 2;", kind2=[0, 2, 4])
        self.assert_plans("in z 0;in a 2;in y 0;in b 2;in c 5;", kind2=[0, 5, 0, 7, 0])

    def test_24_arrays_of_length_64(self):
        behind = list(range(0, 1536, 64))
        self.assert_plans(INPUTS_OF_64, kind0=behind, kind1=behind, kind2=behind)
        outs = "in a 64;" + "".join(f"out b{k} 64=turn a;" for k in range(23))
        self.assert_plans(outs, kind0=behind, kind1=behind, kind2=behind)
        for way, shared in (("map", [0] * 24), ("turn", [0, 64] * 12)):
            chain = "in a0 64;" + "".join(f"let a{k} 64={way} a{k - 1};" for k in range(1, 24))
            self.assert_plans(chain, kind0=behind, kind1=shared, kind2=shared)

    def test_it_changes_nothing(self):
        text = "in a 2;let b 2=map a;"
        before = ask_of(text, plain(), live())
        for k in (-1, 0, 1, 2, 3):
            self.assertEqual(ask_of(text, plan(k), plain(), live())[1:], before)

    def test_plans_do_not_lean_on_one_another(self):
        text = "in a 1;in b 2;"
        expected = [[0, 0, 1], [0, 2, 0], [0, 0, 1], LIMIT, [0, 2, 0]]
        self.assertEqual(ask_of(text, plan(1), plan(2), plan(0), plan(3), plan(2)), expected)
        self.assertEqual(
            ask(load(text), plan(2), load("in a 4;in b 3;in c 2;"), plan(2), load("?"), plan(2)),
            [[2, 2], [0, 2, 0], [3, 3], [0, 0, 4, 7], [-2], [0, 0, 4, 7]],
        )


if __name__ == "__main__":
    unittest.main()
