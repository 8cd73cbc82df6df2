"""Point 4: live."""

import unittest

from asking import NONE, ask, ask_of, live


def ranges_of(text):
    answer = ask_of(text, live())[0]
    return answer[0], list(zip(answer[1::2], answer[2::2], strict=True))


class LiveTest(unittest.TestCase):
    def test_none(self):
        self.assertEqual(ask(live()), [NONE])

    def test_program_without_statements(self):
        self.assertEqual(ask_of("", live()), [[0]])

    def test_inputs(self):
        self.assertEqual(ranges_of("in a 1;in b 0;"), (0, [(0, 0), (0, 0)]))
        self.assertEqual(
            ranges_of("in a 1;in b 1;in c 1;let d 1=map b;let e 1=turn c;"),
            (0, [(0, 0), (0, 1), (0, 2), (1, 1), (2, 2)]),
        )

    def test_lets_and_outs(self):
        self.assertEqual(
            ranges_of("in a 1;let b 1=map a;let c 1=map b;out d 1=map b;let e 1=map c;"),
            (0, [(0, 1), (1, 3), (2, 4), (3, 5), (4, 4)]),
        )

    def test_out_lives_to_the_end_though_an_operand(self):
        self.assertEqual(
            ranges_of("in a 1;out b 1=map a;let c 1=map b;let d 1=map a;"),
            (0, [(0, 3), (1, 4), (2, 2), (3, 3)]),
        )

    def test_last_of_several_statements_counts(self):
        self.assertEqual(
            ranges_of("in a 1;let b 1=map a;let c 1=map a;let d 1=map a;let e 1=map b;"),
            (0, [(0, 3), (1, 4), (2, 2), (3, 3), (4, 4)]),
        )

    def test_operand_that_stands_twice(self):
        self.assertEqual(ranges_of("in a 1;let b 1=turn a a;"), (0, [(0, 1), (1, 1)]))
        self.assertEqual(
            ranges_of("in a 1;in b 1;let c 1=map a b a b;let d 1=map b c c;"),
            (0, [(0, 1), (0, 2), (1, 2), (2, 2)]),
        )

    def test_arrays_without_elements_are_live_too(self):
        self.assertEqual(ranges_of("in a 0;let b 0=map a;out c 0=turn b;"), (0, [(0, 1), (1, 2), (2, 3)]))

    def test_longest_program(self):
        text = "in a 1;" + "".join(f"out b{k} 1=map a;" for k in range(23))
        expected = [(0, 23)] + [(k, 24) for k in range(1, 24)]
        self.assertEqual(ranges_of(text), (0, expected))


if __name__ == "__main__":
    unittest.main()
