"""Point 2: where."""

import unittest

from asking import NONE, ask, check, live, load, plain, where

INPUTS = "in a 1;in b 1;in c 1;in d 1;in e 1;"


def found(text):
    return ask(where(text))[0]


class WhereTest(unittest.TestCase):
    # The fault stands behind a mark ^, which is taken out of the text.
    def assert_form_fault(self, marked):
        position = marked.index("^")
        self.assertEqual(found(marked.replace("^", "")), [2, position], marked)

    def test_good_texts(self):
        for text in ("", "in a 1;", INPUTS + "out x 64=turn a b c d;", " " * 4096, "# x"):
            self.assertEqual(found(text), [0, 0], text)

    def test_long(self):
        self.assertEqual(found(" " * 4097), [1, 0])
        self.assertEqual(found("?" + " " * 4096), [1, 0])
        self.assertEqual(found("in a 1;in a 1;" + " " * 4096), [1, 0])

    def test_byte_at_which_no_token_begins(self):
        self.assert_form_fault("^?")
        self.assert_form_fault("in ^A 1;")
        self.assert_form_fault("in a^B 1;")
        self.assert_form_fault("in a ^\x00 1;")
        self.assert_form_fault("in a 1;  ^\xff")
        self.assert_form_fault("in a 1;# ? remark\n ^-")
        self.assert_form_fault("in a 1;let b 1=map a^,a;")
        self.assertEqual(found("in a^ 1;"), [2, 4])

    def test_bytes_right_beside_digits_and_letters(self):
        for byte in "/:`{@[":
            self.assert_form_fault(f"in a^{byte} 1;")
            self.assert_form_fault(f"in a 1^{byte};")
            self.assert_form_fault(f"in ^{byte}a 1;")
            self.assert_form_fault(f"in a ^{byte}1;")
            self.assert_form_fault(f"^{byte}")

    def test_number_with_a_0_before_other_digits(self):
        self.assert_form_fault("in a ^01;")
        self.assert_form_fault("in a ^00;")
        self.assert_form_fault("in ^01 1;")
        self.assert_form_fault("in a 1 ^007;")

    def test_number_right_before_a_word(self):
        self.assert_form_fault("in a 0^b;")
        self.assert_form_fault("in a 12^b3;")

    def test_number_above_64(self):
        self.assert_form_fault("in a ^65;")
        self.assert_form_fault("in a 64;in b ^100")
        self.assert_form_fault("in a 1;let b ^65=map a;")
        self.assert_form_fault("in a ^" + "9" * 4000)

    def test_long_word(self):
        self.assert_form_fault("in ^abcdefghijklmnopq 1;")
        self.assert_form_fault("in a 1;let ^abcdefghijklmnopq 1=map a;")
        self.assert_form_fault("in a 1;let b 1=map a ^abcdefghijklmnopq;")
        self.assert_form_fault("^abcdefghijklmnopq")

    def test_kept_word_where_a_name_is_due(self):
        self.assert_form_fault("in ^map 1;")
        self.assert_form_fault("in a 1;out ^in 1=map a;")
        self.assert_form_fault("in a 1;out b 1=map ^turn;")
        self.assert_form_fault("in a 1;out b 1=map a ^let c 1=map a;")

    def test_fifth_operand_and_none(self):
        self.assert_form_fault(INPUTS + "let x 1=map a b c d ^e;")
        self.assert_form_fault(INPUTS + "out x 1=turn a a a a ^a a;")
        self.assert_form_fault(INPUTS + "out x 1=turn a a a a ^in")
        self.assert_form_fault(INPUTS + "let x 1=map ^;")

    def test_first_word_of_the_25th_statement(self):
        full = "".join(f"in a{k} 1;" for k in range(24))
        self.assert_form_fault(full + " ^in b 1;")
        self.assert_form_fault(full + "^let b 1=map a0;")
        self.assert_form_fault(full + "^out")
        self.assert_form_fault(full + "^;")
        self.assertEqual(found(full + " \n"), [0, 0])

    def test_input_behind_another_statement(self):
        self.assert_form_fault("in a 1;let b 1=map a; ^in c 1;")
        self.assert_form_fault("in a 1;out b 1=map a;^in")
        self.assert_form_fault("in a 1;out b 1=map a;let c 1=map a;^in d 1;")

    def test_token_that_can_not_stand(self):
        self.assert_form_fault("^;")
        self.assert_form_fault("^=")
        self.assert_form_fault("^1")
        self.assert_form_fault("^a 1;")
        self.assert_form_fault("^map a;")
        self.assert_form_fault("in ^1;")
        self.assert_form_fault("in ^;")
        self.assert_form_fault("in a ^b 1;")
        self.assert_form_fault("in a ^;")
        self.assert_form_fault("in a 1 ^=map a;")
        self.assert_form_fault("in a 1 ^2;")
        self.assert_form_fault("in a 1;^;")
        self.assert_form_fault("in a 1;let b 1^;")
        self.assert_form_fault("in a 1;let b 1 ^map a;")
        self.assert_form_fault("in a 1;let b 1=^=map a;")
        self.assert_form_fault("in a 1;let b 1=^a;")
        self.assert_form_fault("in a 1;let b 1=map a^=;")
        self.assert_form_fault("in a 1;let b 1=map a ^1;")
        self.assert_form_fault("in a 1;let b 1=map ^1;")

    def test_first_of_several_faults(self):
        self.assert_form_fault("in a ^65 ? 01;")
        self.assert_form_fault("in ^? 65;")
        self.assert_form_fault("in a 1;let b 1=map a a a a ^a ?")

    def test_text_that_ends_too_early(self):
        tokens = ("in ", "a ", "1", ";", "let ", "b ", "1 ", "= ", "map ", "a ", "a ", "a ", "a", ";")
        for count in range(len(tokens) + 1):
            text = "".join(tokens[:count])
            expected = [0, 0] if count in (0, 4, len(tokens)) else [2, len(text)]
            self.assertEqual(found(text), expected, text)

    def test_word_that_is_cut_off(self):
        self.assert_form_fault("^i")
        self.assert_form_fault("in a 1;^le")
        self.assert_form_fault("in a 1;let b 1=^ma")

    def test_end_behind_blanks_and_a_remark(self):
        for text in ("in a 1 ", "in a 1\n\t \r", "in # x", "in a 1 # ;", "in#\n#", "in a 1;let b 1=map a  #\n\n"):
            self.assertEqual(found(text), [2, len(text)], text)
        self.assertEqual(found("in" + " " * 4094), [2, 4096])

    def test_wrong_in_a_name(self):
        self.assertEqual(found("let a 1=map b;"), [3, 0])
        self.assertEqual(found("in a 1;in a 1;"), [3, 1])
        self.assertEqual(found("in a 1;let b 1=map b;"), [3, 1])
        self.assertEqual(found("in a 1;let b 1=map a;out c 1=map b d;let d 1=map a;"), [3, 2])
        self.assertEqual(found("in a 1;let b 1=map c;let b 1=map a;"), [3, 1])
        last = "".join(f"in a{k} 1;" for k in range(23)) + "out x 1=map a0 a1 a2 y;"
        self.assertEqual(found(last), [3, 23])

    def test_form_comes_before_name(self):
        self.assert_form_fault("in a 1;in a 1;^?")
        self.assert_form_fault("let a 1=map b;^in c 1;")

    def test_it_changes_nothing(self):
        for text in ("in b 2;", "", "?", "in b 1;in b 1;", " " * 4097):
            self.assertEqual(
                ask(load("in a 3;"), where(text), plain(), live(), check(1))[2:],
                [[0] + list(b"in a 3;\n"), [0, 0, 0], [0]],
            )
            self.assertEqual(ask(where(text), plain())[1], NONE)


if __name__ == "__main__":
    unittest.main()
