"""Points 11 and 12: the elements that are made, by apart and by runs of sound plans alike."""

import unittest

from asking import DATA, FORM, MISSING, NONE, apart, ask, ask_of, load, pack, plan, run, set_data

GREATEST = 1000002


class ApartTest(unittest.TestCase):
    def assert_made(self, text, data, expected):
        sets = [set_data(n, *numbers) for n, numbers in enumerate(data)]
        answers = ask_of(text, *sets, plan(0), plan(1), plan(2), apart())
        self.assertEqual(answers[-1], [0] + expected, text)
        for made in answers[-4:-1]:
            packed = ask_of(text, pack(*made[1:]))[0]
            for offsets in (made[1:], packed[1:], [5 * offset + 3 for offset in made[1:]]):
                self.assertEqual(ask_of(text, *sets, run(*offsets))[-1], [0] + expected, (text, offsets))

    def test_none_comes_before_missing(self):
        self.assertEqual(ask(apart()), [NONE])
        self.assertEqual(ask(load("?"), apart()), [FORM, NONE])

    def test_program_without_statements(self):
        self.assertEqual(ask_of("", apart()), [[0]])

    def test_missing(self):
        for text in ("in a 1;", "in a 0;", "in a 2;out b 2=map a;", "in a 0;out b 3=turn a;"):
            self.assertEqual(ask_of(text, apart()), [MISSING], text)

    def test_missing_until_the_last_input_has_data(self):
        text = "in a 1;in b 2;in c 0;out d 1=map a b c;"
        sets = (set_data(1, 3, 4), set_data(0, 9), set_data(2, 1), set_data(2))
        self.assertEqual(
            ask_of(text, *[call for one in sets for call in (one, apart())]),
            [[0], MISSING, [0], MISSING, DATA, MISSING, [0], [0, 1, 22]],
        )

    def test_input_that_nobody_asks_for_must_have_data_too(self):
        text = "in a 1;in b 1;out c 1=map a;"
        self.assertEqual(ask_of(text, set_data(0, 1), apart(), set_data(1, 1), apart()), [[0], MISSING, [0], [0, 1, 8]])

    def test_it_follows_the_program(self):
        self.assertEqual(
            ask(load(""), apart(), load("in a 1;"), apart(), load(""), apart()),
            [[0, 0], [0], [1, 1], MISSING, [0, 0], [0]],
        )

    def test_no_outs(self):
        self.assert_made("in a 2;in b 0;", [(1, 2), ()], [])
        self.assert_made("in a 2;let b 2=map a;", [(1, 2)], [])

    def test_map_and_turn_of_one_operand(self):
        self.assert_made("in a 3;out b 3=map a;", [(1, 20, 300)], [3, 8, 27, 307])
        self.assert_made("in a 3;out b 3=turn a;", [(1, 20, 300)], [3, 311, 32, 14])

    def test_longer_operands(self):
        self.assert_made("in a 4;out b 2=map a;", [(1, 2, 3, 4)], [2, 8, 9])
        self.assert_made("in a 4;out b 2=turn a;", [(1, 2, 3, 4)], [2, 15, 15])
        self.assert_made("in a 4;out b 1=turn a;", [(1, 2, 3, 4)], [1, 15])

    def test_shorter_operands_begin_anew(self):
        self.assert_made("in a 2;out b 5=map a;", [(1, 20)], [5, 8, 27, 8, 27, 8])
        self.assert_made("in a 2;out b 5=turn a;", [(1, 20)], [5, 31, 13, 33, 15, 35])
        self.assert_made("in a 1;out b 3=turn a;", [(1,)], [3, 12, 13, 14])

    def test_operands_of_several_lengths(self):
        data = [(1, 2, 3), (10, 20)]
        self.assert_made("in a 3;in b 2;out c 4=map a b;", data, [4, 28, 49, 30, 48])
        self.assert_made("in a 3;in b 2;out c 4=turn a b;", data, [4, 54, 34, 54, 37])

    def test_operands_without_elements_give_0_but_keep_their_place(self):
        self.assert_made("in z 0;in a 1;out b 2=map z a;", [(), (5,)], [2, 17, 17])
        self.assert_made("in z 0;in a 1;out b 2=turn z a;", [(), (5,)], [2, 21, 22])
        self.assert_made("in z 0;in a 1;out b 1=map a z z a;", [(), (5,)], [1, 32])
        self.assert_made("in z 0;out b 2=map z;out c 2=turn z z;", [()], [2, 7, 7, 2, 11, 12])

    def test_one_to_four_operands_count_by_their_place(self):
        inputs = "in a 1;in b 1;in c 1;in d 1;"
        data = [(1,), (10,), (100,), (1000,)]
        self.assert_made(inputs + "out e 1=map d;", data, [1, 1007])
        self.assert_made(inputs + "out e 1=map d c;", data, [1, 1207])
        self.assert_made(inputs + "out e 1=map d c b;", data, [1, 1237])
        self.assert_made(inputs + "out e 1=map d c b a;", data, [1, 1241])
        self.assert_made(inputs + "out e 1=turn a b c d;", data, [1, 4332])

    def test_one_operand_several_times(self):
        self.assert_made("in a 2;out b 2=map a a;", [(1, 10)], [2, 10, 37])
        self.assert_made("in a 2;out b 2=map a a a a;", [(1, 10)], [2, 17, 107])
        self.assert_made("in a 2;out b 2=turn a a a;", [(1, 10)], [2, 71, 18])
        self.assert_made("in a 1;in b 1;out c 1=map a b a b;", [(1,), (10,)], [1, 71])

    def test_remainder(self):
        self.assert_made("in a 3;out b 3=map a;", [(999995, 999996, GREATEST)], [3, GREATEST, 0, 6])
        self.assert_made("in a 1;out b 1=map a a a a;", [(GREATEST,)], [1, 1000000])
        self.assert_made("in a 1;out b 3=turn a;", [(999991,)], [3, GREATEST, 0, 1])
        self.assert_made("in a 1;out b 64=turn a;", [(GREATEST,)], [64] + list(range(10, 74)))

    def test_remainder_in_a_long_chain(self):
        text = "in a0 1;" + "".join(f"let a{k} 1=map a{k - 1} a{k - 1} a{k - 1} a{k - 1};" for k in range(1, 23))
        number = 5
        for step in range(23):
            number = (7 + 10 * number) % 1000003
        self.assert_made(text + "out a23 1=map a22 a22 a22 a22;", [(5,)], [1, number])

    def test_several_outs_in_their_order(self):
        text = "in a 2;out b 1=map a;let c 2=turn a;out d 2=map c;out e 3=map b d;"
        # b 8, c 13 13, d 20 20, e 7+8+40 three times
        self.assert_made(text, [(1, 2)], [1, 8, 2, 20, 20, 3, 55, 55, 55])

    def test_out_of_length_0(self):
        self.assert_made("in a 1;out b 0=map a;out c 1=map a;out d 0=turn b;", [(5,)], [0, 1, 12, 0])
        self.assert_made("in a 0;out b 0=map a;", [()], [0])

    def test_out_of_length_0_as_an_operand(self):
        self.assert_made("in a 1;out b 0=map a;out c 2=turn b a;", [(5,)], [0, 2, 21, 22])

    def test_outs_and_lets_as_operands(self):
        self.assert_made("in a 2;let b 2=turn a;out c 2=map b;out d 2=turn c b;", [(1, 2)], [2, 20, 20, 2, 57, 58])

    def test_greatest_answer(self):
        text = "in a 64;" + "".join(f"out b{k} 64=map a;" for k in range(23))
        self.assert_made(text, [range(64)], ([64] + list(range(7, 71))) * 23)


if __name__ == "__main__":
    unittest.main()
