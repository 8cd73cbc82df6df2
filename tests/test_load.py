"""Point 1: load."""

import unittest

from asking import FORM, LONG, NAME, NONE, ask, live, load, plain

FOUR_INPUTS = "in a 1;in b 1;in c 1;in d 1;in e 1;"


def loaded(text):
    return ask(load(text))[0]


def inputs(count):
    return "".join(f"in a{k} 1;" for k in range(count))


class TextTest(unittest.TestCase):
    def test_empty_text_is_a_program(self):
        self.assertEqual(loaded(""), [0, 0])

    def test_blanks_and_remarks_alone_are_a_program(self):
        self.assertEqual(loaded(" \t\n\r# nothing"), [0, 0])

    def test_counts_arrays_and_inputs(self):
        self.assertEqual(loaded("in a 1;"), [1, 1])
        self.assertEqual(loaded("in a 1;in b 2;let c 3=map a b;out d 4=turn c;"), [4, 2])

    def test_text_of_4096_bytes(self):
        text = "in a 1;" + " " * 4089
        self.assertEqual(len(text), 4096)
        self.assertEqual(loaded(text), [1, 1])
        self.assertEqual(loaded("?" * 4096), FORM)

    def test_text_of_4097_bytes(self):
        self.assertEqual(loaded("in a 1;" + " " * 4090), LONG)

    def test_long_comes_before_form_and_name(self):
        self.assertEqual(loaded("?" + " " * 4096), LONG)
        self.assertEqual(loaded("in a 1;in a 1;" + " " * 4096), LONG)
        self.assertEqual(loaded("?" * 5000), LONG)


class TokenTest(unittest.TestCase):
    def test_each_kind_of_blank_parts_tokens(self):
        for blank in " \t\n\r":
            self.assertEqual(loaded(f"in{blank}a{blank}1{blank};{blank}"), [1, 1], repr(blank))

    def test_other_bytes_are_no_blanks(self):
        for byte in list(range(9)) + [11, 12] + list(range(14, 32)) + list(range(127, 256)):
            text = list(b"in a") + [byte] + list(b"1;")
            self.assertEqual(loaded(text), FORM, byte)

    def test_other_printed_signs_are_no_tokens(self):
        for sign in "!\"$%&'()*+,-./:<>?@[\\]^_`{|}~ABCXYZ":
            self.assertEqual(loaded(f"in a {sign} 1;"), FORM, sign)

    def test_no_blank_is_needed_where_tokens_part_by_themselves(self):
        self.assertEqual(loaded("in a 2;let b 2=map a;out c 2=turn b;"), [3, 1])

    def test_remark_up_to_a_line_feed(self):
        self.assertEqual(loaded("in#x;?\xff\na 1;"), [1, 1])
        self.assertEqual(loaded("#\nin a 1;"), [1, 1])
        self.assertEqual(loaded("in a 1;##x#\nin b 1;"), [2, 2])

    def test_remark_is_not_ended_by_byte_13(self):
        self.assertEqual(loaded("in a 1;# one\rin b 1;"), [1, 1])

    def test_remark_up_to_the_end(self):
        self.assertEqual(loaded("in a 1;# in b 1;"), [1, 1])
        self.assertEqual(loaded("in a 1;#"), [1, 1])

    def test_remark_parts_tokens(self):
        self.assertEqual(loaded("i#\nn a 1;"), FORM)
        self.assertEqual(loaded("in#\na#\n1#\n;"), [1, 1])

    def test_numbers(self):
        for number in ("0", "1", "9", "10", "63", "64"):
            self.assertEqual(loaded(f"in a {number};"), [1, 1], number)
        for number in ("65", "99", "100", "640", "1000000", "9" * 4000):
            self.assertEqual(loaded(f"in a {number};"), FORM, number)

    def test_numbers_with_a_0_before_other_digits(self):
        for number in ("00", "01", "064", "000"):
            self.assertEqual(loaded(f"in a {number};"), FORM, number)

    def test_word_of_16_and_of_17_bytes(self):
        self.assertEqual(loaded("in abcdefghijklmnop 1;"), [1, 1])
        self.assertEqual(loaded("in abcdefghijklmnopq 1;"), FORM)
        self.assertEqual(loaded("in a123456789012345 1;"), [1, 1])
        self.assertEqual(loaded("in a1234567890123456 1;"), FORM)

    def test_long_operand(self):
        self.assertEqual(loaded("in a 1;let b 1=map abcdefghijklmnopq;"), FORM)

    def test_words_reach_over_letters_and_digits(self):
        self.assertEqual(loaded("in az09 1;"), [1, 1])
        self.assertEqual(loaded("ina 1;"), FORM)
        self.assertEqual(loaded("in a1;"), FORM)
        self.assertEqual(loaded("in 1a 1;"), FORM)
        self.assertEqual(loaded("in aB 1;"), FORM)

    def test_a_number_may_stand_right_before_a_word(self):
        self.assertEqual(loaded("in a 1in b 1;"), FORM)
        self.assertEqual(loaded("in a 1;let b 1=map a;let c 1=map a b;"), [3, 1])


class StatementTest(unittest.TestCase):
    def test_kept_words_are_no_names(self):
        for word in ("in", "let", "out", "map", "turn"):
            self.assertEqual(loaded(f"in {word} 1;"), FORM, word)
            self.assertEqual(loaded(f"in a 1;let {word} 1=map a;"), FORM, word)
            self.assertEqual(loaded(f"in a 1;out {word} 1=map a;"), FORM, word)
            self.assertEqual(loaded(f"in a 1;let b 1=map {word};"), FORM, word)
            self.assertEqual(loaded(f"in a 1;let b 1=map a {word};"), FORM, word)

    def test_names_that_begin_like_kept_words(self):
        for word in ("inn", "let1", "outs", "maps", "turn0", "i", "ma"):
            self.assertEqual(loaded(f"in {word} 1;let x 1=map {word};"), [2, 1], word)

    def test_one_to_four_operands(self):
        for operands in ("a", "a b", "a b c", "a b c d", "a a a a"):
            for way in ("map", "turn"):
                self.assertEqual(loaded(f"{FOUR_INPUTS}let x 1={way} {operands};"), [6, 5], operands)
                self.assertEqual(loaded(f"{FOUR_INPUTS}out x 1={way} {operands};"), [6, 5], operands)

    def test_no_operand_and_five(self):
        for operands in ("", "a b c d e", "a a a a a", "a b c d e a"):
            for way in ("map", "turn"):
                self.assertEqual(loaded(f"{FOUR_INPUTS}let x 1={way} {operands};"), FORM, operands)
                self.assertEqual(loaded(f"{FOUR_INPUTS}out x 1={way} {operands};"), FORM, operands)

    def test_parts_that_are_missing_or_too_many(self):
        texts = (
            ";", "in", "in a", "in a 1", "in 1;", "in a;", "in a 1 1;", "in a b 1;", "in a 1;;", "in a 1=;",
            "in a 1=map a;", "a 1;", "map", "turn a;", "1", "=",
        )
        for text in texts:
            self.assertEqual(loaded(text), FORM, text)
        ends = (
            "let", "let b", "let b 1", "let b 1=", "let b 1=map", "let b 1=map a", "let b 1;", "let b 1 map a;",
            "let b 1==map a;", "let b 1=a;", "let b 1=let a;", "let b 1=map a=;", "let b=map a;", "let 1=map a;",
            "let b 1=map turn a;", "let b 1=map 1;", "out b", "out b 1;", "out b 1=mop a;",
        )
        for end in ends:
            self.assertEqual(loaded("in a 1;" + end), FORM, end)

    def test_24_and_25_statements(self):
        self.assertEqual(loaded(inputs(24)), [24, 24])
        self.assertEqual(loaded(inputs(25)), FORM)
        lets = "".join(f"let b{k} 1=map a0;" for k in range(23))
        self.assertEqual(loaded(inputs(1) + lets), [24, 1])
        self.assertEqual(loaded(inputs(2) + lets), FORM)
        self.assertEqual(loaded(inputs(24) + " # nothing behind"), [24, 24])

    def test_inputs_come_first(self):
        self.assertEqual(loaded("in a 1;let b 1=map a;in c 1;"), FORM)
        self.assertEqual(loaded("in a 1;out b 1=map a;in c 1;"), FORM)
        self.assertEqual(loaded("in a 1;out b 1=map a;let c 1=map b;"), [3, 1])


class NameTest(unittest.TestCase):
    def test_name_given_twice(self):
        self.assertEqual(loaded("in a 1;in a 2;"), NAME)
        self.assertEqual(loaded("in a 1;let a 1=map a;"), NAME)
        self.assertEqual(loaded("in a 1;let b 1=map a;out b 1=map a;"), NAME)

    def test_operand_that_no_earlier_statement_gave(self):
        self.assertEqual(loaded("let a 1=map b;"), NAME)
        self.assertEqual(loaded("in a 1;let b 1=map c;"), NAME)
        self.assertEqual(loaded("in a 1;let b 1=map a a a c;"), NAME)
        self.assertEqual(loaded("in a 1;let b 1=map c;let c 1=map a;"), NAME)

    def test_own_name_as_operand(self):
        self.assertEqual(loaded("in a 1;let b 1=map b;"), NAME)
        self.assertEqual(loaded("in a 1;out b 1=turn a b;"), NAME)

    def test_names_of_16_bytes_are_told_apart_by_the_last(self):
        self.assertEqual(loaded("in abcdefghijklmnop 1;in abcdefghijklmnoq 1;"), [2, 2])
        self.assertEqual(loaded("in a1 1;in a2 1;in b1 1;"), [3, 3])

    def test_form_comes_before_name(self):
        self.assertEqual(loaded("in a 1;in a 1;in b"), FORM)
        self.assertEqual(loaded("let a 1=map b;?"), FORM)


class HeldProgramTest(unittest.TestCase):
    def test_refused_load_leaves_the_program(self):
        kept = [0] + list(b"in a 3;\n")
        for text, refusal in (("?", FORM), ("in b 1;in b 1;", NAME), (" " * 4097, LONG), ("in b 1;in c", FORM)):
            self.assertEqual(
                ask(load("in a 3;"), load(text), plain(), live()),
                [[1, 1], refusal, kept, [0, 0, 0]],
            )

    def test_refused_load_makes_no_program(self):
        for text in ("?", "in b 1;in b 1;", " " * 4097):
            self.assertEqual(ask(load(text), plain())[1], NONE)

    def test_second_load_takes_the_place(self):
        self.assertEqual(
            ask(load("in a 3;"), load("in b 4;in c 5;"), plain()),
            [[1, 1], [2, 2], [0] + list(b"in b 4;\nin c 5;\n")],
        )
        self.assertEqual(ask(load("in a 3;"), load(""), plain()), [[1, 1], [0, 0], [0]])

    def test_the_same_name_in_a_second_program(self):
        self.assertEqual(ask(load("in a 3;"), load("in a 4;")), [[1, 1], [1, 1]])
        self.assertEqual(ask(load("in a 3;"), load("let b 3=map a;")), [[1, 1], NAME])


if __name__ == "__main__":
    unittest.main()
