"""The document's own example, as far as there are calls for it."""

import unittest

from asking import MISSING, apart, ask, check, live, load, need, plain, where

TEXT = "in a 2;let b 2=map a;out c 2=turn b;"


class ExampleTest(unittest.TestCase):
    def test_answers_of_the_document(self):
        self.assertEqual(
            ask(load(TEXT), where(TEXT), live(), need(), check(0, 0, 0), check(0, 0, 2)),
            [[3, 1], [0, 0], [0, 0, 1, 1, 2, 2, 3], [4], [1, 1, 2], [0]],
        )

    def test_plain_text_of_the_example(self):
        expected = "in a 2;\nlet b 2 = map a;\nout c 2 = turn b;\n"
        self.assertEqual(ask(load(TEXT), plain())[1], [0] + list(expected.encode()))

    def test_apart_without_data(self):
        self.assertEqual(ask(load(TEXT), apart())[1], MISSING)


if __name__ == "__main__":
    unittest.main()
