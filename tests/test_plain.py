"""Point 3: plain."""

import unittest

from asking import NONE, ask, ask_of, load, plain


def plain_of(text):
    answer = ask_of(text, plain())[0]
    return answer[0], bytes(answer[1:]).decode("ascii")


class PlainTest(unittest.TestCase):
    def test_none(self):
        self.assertEqual(ask(plain()), [NONE])

    def test_program_without_statements(self):
        self.assertEqual(ask_of("# x", plain()), [[0]])

    def test_byte_for_byte(self):
        cases = (
            ("in a 0;", "in a 0;\n"),
            ("in\ta\r64 ;#x", "in a 64;\n"),
            ("in a 7;let b 10=map a;", "in a 7;\nlet b 10 = map a;\n"),
            ("in a 7;let b 10=turn a;", "in a 7;\nlet b 10 = turn a;\n"),
            ("in a 7;out b 0=map a;", "in a 7;\nout b 0 = map a;\n"),
            ("in a 7;out b 0=turn a a;", "in a 7;\nout b 0 = turn a a;\n"),
            (
                "in a 7;in b 8;in c 9;out d 9   =   turn\nc a b a;let e1 1=map d c b a;",
                "in a 7;\nin b 8;\nin c 9;\nout d 9 = turn c a b a;\nlet e1 1 = map d c b a;\n",
            ),
            ("in abcdefghijklmnop 1;in z0123456789 2;", "in abcdefghijklmnop 1;\nin z0123456789 2;\n"),
            ("in qrstuvwxyz 1;", "in qrstuvwxyz 1;\n"),
        )
        for text, expected in cases:
            self.assertEqual(plain_of(text), (0, expected))

    def test_every_length(self):
        for length in range(65):
            self.assertEqual(plain_of(f"in a {length};"), (0, f"in a {length};\n"))

    def test_plain_text_has_the_same_plain_text(self):
        texts = ("", "in a 3;", "in a 3;in b 64;let c 3=map a b a b;out d 0=turn c;out e 10=map d#\n;")
        for text in texts:
            first = ask_of(text, plain())[0]
            self.assertEqual(ask(load(text), load(first[1:]), plain())[2], first)

    def test_longest_program(self):
        text = "in a123456789012345 64;" + "".join(
            f"let b1234567890123{k} 64=turn" + " a123456789012345" * 4 + ";" for k in range(10, 33)
        )
        expected = "in a123456789012345 64;\n" + "".join(
            f"let b1234567890123{k} 64 = turn" + " a123456789012345" * 4 + ";\n" for k in range(10, 33)
        )
        self.assertEqual(plain_of(text), (0, expected))


if __name__ == "__main__":
    unittest.main()
