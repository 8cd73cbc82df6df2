"""Point 5: need."""

import unittest

from asking import NONE, ask, ask_of, need


class NeedTest(unittest.TestCase):
    def assert_need(self, text, expected):
        self.assertEqual(ask_of(text, need()), [[expected]], text)

    def test_none(self):
        self.assertEqual(ask(need()), [NONE])

    def test_program_without_statements(self):
        self.assert_need("", 0)

    def test_inputs_are_all_there_at_time_0(self):
        self.assert_need("in a 3;", 3)
        self.assert_need("in a 3;in b 4;in c 0;", 7)
        self.assert_need("in a 10;in b 1;let c 2=map b;", 11)

    def test_time_with_taking_over(self):
        self.assert_need("in a 5;let b 5=map a;", 5)
        self.assert_need("in a 5;out b 5=map a;", 5)
        self.assert_need("in a 5;let b 5=map a;let c 5=map b;out d 5=map c;", 5)

    def test_turn_takes_nothing_over(self):
        self.assert_need("in a 5;let b 5=turn a;", 10)

    def test_other_length_is_not_taken_over(self):
        self.assert_need("in a 5;let b 4=map a;", 9)
        self.assert_need("in a 5;let b 6=map a;", 11)

    def test_array_that_is_needed_later_is_not_taken_over(self):
        self.assert_need("in a 5;let b 5=map a;let c 1=map a;", 10)
        self.assert_need("in a 5;let b 5=map a;let c 1=map a b;", 11)

    def test_several_may_be_taken_over_but_one_counts(self):
        self.assert_need("in a 5;in b 5;let c 5=map a b;", 10)
        self.assert_need("in a 5;in b 5;in c 5;out d 5=map a b c;", 15)
        self.assert_need("in a 5;in b 3;let c 5=map b a;", 8)
        self.assert_need("in a 5;let c 5=map a a;", 5)

    def test_an_array_that_is_no_operand_is_not_taken_over(self):
        self.assert_need("in a 5;in b 5;let c 5=map a;let d 1=map b;", 10)
        self.assert_need("in a 5;in b 2;let c 2=map b;let d 1=map a;", 7)

    def test_out_as_an_operand(self):
        self.assert_need("in a 5;out b 5=map a;out c 5=map b;", 10)
        self.assert_need("in a 5;out b 5=map a;let c 5=map b;let d 5=map c;", 10)

    def test_outs_add_up_at_the_end(self):
        self.assert_need("in a 1;out b 9=turn a;out c 9=turn a;out d 9=turn a;", 28)
        self.assert_need("in a 1;out b 9=map a;out c 1=map a;", 10)

    def test_the_greatest_time_counts_wherever_it_stands(self):
        self.assert_need("in a 1;let b 60=map a;let c 1=map b;out d 1=map c;", 61)
        self.assert_need("in a 1;let b 1=map a;let c 50=map b;out d 60=map c;", 110)

    def test_arrays_without_elements(self):
        self.assert_need("in a 0;", 0)
        self.assert_need("in a 0;in b 4;let c 0=map a b;let d 4=map b c;", 4)
        self.assert_need("in a 0;let b 7=map a;", 7)

    def test_arrays_that_nobody_asks_for_count_when_they_are_made(self):
        self.assert_need("in a 3;let b 7=map a;let c 3=map a;", 10)

    def test_greatest_need(self):
        text = "in a0 64;" + "".join(f"out b{k} 64=turn a0;" for k in range(23))
        self.assert_need(text, 1536)
        self.assert_need("".join(f"in a{k} 64;" for k in range(24)), 1536)


if __name__ == "__main__":
    unittest.main()
