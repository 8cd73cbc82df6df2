"""The document's own example."""

import unittest

from asking import MISSING, apart, ask, check, live, load, need, pack, plain, plan, room, run, set_data, where

TEXT = "in a 2;let b 2=map a;out c 2=turn b;"


class ExampleTest(unittest.TestCase):
    def test_answers_of_the_document(self):
        self.assertEqual(
            ask(load(TEXT), where(TEXT), live(), need(), plan(1), check(0, 0, 0), set_data(0, 5, 6), apart()),
            [[3, 1], [0, 0], [0, 0, 1, 1, 2, 2, 3], [4], [0, 0, 0, 2], [1, 1, 2], [0], [0, 2, 24, 24]],
        )

    def test_run_of_the_plan_gives_what_apart_gives(self):
        self.assertEqual(
            ask(load(TEXT), check(0, 0, 2), set_data(0, 5, 6), run(0, 0, 2), apart())[1:],
            [[0], [0], [0, 2, 24, 24], [0, 2, 24, 24]],
        )

    def test_what_the_other_calls_say_of_the_example(self):
        self.assertEqual(
            ask(load(TEXT), room(0, 0, 2), plan(0), plan(2), pack(7, 7, 9))[1:],
            [[4], [0, 0, 2, 4], [0, 0, 0, 2], [0, 0, 0, 2]],
        )

    def test_plan_that_clashes_is_run_too(self):
        # c's first element, 24, is written over b's 12 before that one is read.
        self.assertEqual(ask(load(TEXT), set_data(0, 5, 6), run(0, 0, 0))[2], [0, 2, 24, 36])

    def test_plain_text_of_the_example(self):
        expected = "in a 2;\nlet b 2 = map a;\nout c 2 = turn b;\n"
        self.assertEqual(ask(load(TEXT), plain())[1], [0] + list(expected.encode()))

    def test_apart_and_run_without_data(self):
        self.assertEqual(ask(load(TEXT), apart(), run(0, 0, 2))[1:], [MISSING, MISSING])


if __name__ == "__main__":
    unittest.main()
