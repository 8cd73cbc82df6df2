"""Point 12: apart, where no input can have data."""

import unittest

from asking import FORM, MISSING, NONE, apart, ask, ask_of, load


class ApartTest(unittest.TestCase):
    def test_none(self):
        self.assertEqual(ask(apart()), [NONE])
        self.assertEqual(ask(load("?"), apart()), [FORM, NONE])

    def test_program_without_statements(self):
        self.assertEqual(ask_of("", apart()), [[0]])

    def test_missing(self):
        for text in ("in a 1;", "in a 0;", "in a 2;out b 2=map a;", "in a 0;out b 3=turn a;"):
            self.assertEqual(ask_of(text, apart()), [MISSING], text)

    def test_it_follows_the_program(self):
        self.assertEqual(
            ask(load(""), apart(), load("in a 1;"), apart(), load(""), apart()),
            [[0, 0], [0], [1, 1], MISSING, [0, 0], [0]],
        )


if __name__ == "__main__":
    unittest.main()
