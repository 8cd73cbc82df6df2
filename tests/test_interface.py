"""The interface: how calls stand in the list, and how their answers are counted."""

import contextlib
import io
import sys
import unittest

from asking import (
    FORM, NONE, apart, check, live, load, need, pack, plain, plan, room, run, set_data, where,
)

import sharedrooms.planner
from sharedrooms.planner import answers

TEXT = "in a 2;let b 2=map a;out c 2=turn b;"
EVERY_CALL = (
    load(TEXT) + where(TEXT) + where("?") + plain() + live() + need() + check(0, 0, 0) + check(0, 0, 2) + check(-1)
    + room(0, 0, 2) + room(0) + plan(0) + plan(1) + plan(2) + plan(3) + pack(7, 7, 9) + pack(0, 0, 0) + pack()
    + apart() + run(0, 0, 2) + set_data(0, 5, 6) + set_data(0, 5) + set_data(3, 5) + apart() + run(0, 0, 2)
    + run(0, 0, 0) + run(10001, 0, 0) + load("?") + apart()
)


class InterfaceTest(unittest.TestCase):
    def test_calls_are_written_as_told(self):
        self.assertEqual(answers([0, 7, 105, 110, 32, 97, 32, 50, 59]), [2, 1, 1])
        self.assertEqual(answers([1, 1, 63]), [2, 2, 0])
        self.assertEqual(answers([0, 0, 2, 3, 4, 5, 0, 11]), [2, 0, 0, 1, 0, 1, 0, 1, 0, 1, 0, 1, 0])

    def test_how_the_calls_of_plans_and_data_are_written(self):
        loaded = [0, 7, 105, 110, 32, 97, 32, 50, 59]
        self.assertEqual(answers(loaded + [6, 1, 40]), [2, 1, 1, 1, 42])
        self.assertEqual(answers(loaded + [7, 0, 7, 1, 7, 2]), [2, 1, 1] + [2, 0, 0] * 3)
        self.assertEqual(answers(loaded + [8, 1, 40]), [2, 1, 1, 2, 0, 0])
        self.assertEqual(answers(loaded + [9, 0, 2, 5, 6, 10, 1, 40, 11]), [2, 1, 1] + [1, 0] * 3)
        self.assertEqual(answers([0, 0, 6, 0, 7, 0, 8, 0, 9, 0, 0, 10, 0]), [2, 0, 0] + [1, 0] * 3 + [1, -8, 1, 0])

    def test_every_call_in_one_list(self):
        expected = (
            [2, 3, 1] + [2, 0, 0] + [2, 2, 0] + [44, 0] + list(b"in a 2;\nlet b 2 = map a;\nout c 2 = turn b;\n")
            + [7, 0, 0, 1, 1, 2, 2, 3] + [1, 4] + [3, 1, 1, 2] + [1, 0] + [1, -5]
            + [1, 4] + [1, -5] + [4, 0, 0, 2, 4] + [4, 0, 0, 0, 2] * 2 + [1, -6] + [4, 0, 0, 0, 2] + [1, -7] + [1, -5]
            + [1, -10] * 2 + [1, 0] + [1, -9] + [1, -8] + [4, 0, 2, 24, 24] * 2
            + [4, 0, 2, 24, 36] + [1, -5] + [1, -2] + [4, 0, 2, 24, 24]
        )
        self.assertEqual(answers(EVERY_CALL), expected)

    def test_several_calls_each_with_its_count(self):
        line = load(TEXT) + live() + need() + check(0, 0, 0) + check(0, 0, 2) + check(0) + apart() + where("?")
        expected = [2, 3, 1] + [7, 0, 0, 1, 1, 2, 2, 3] + [1, 4] + [3, 1, 1, 2] + [1, 0] + [1, -5] + [1, -10]
        self.assertEqual(answers(line), expected + [2, 2, 0])

    def test_each_refusal_stands_alone(self):
        with_plans = check(0) + room(0) + plan(0) + pack(0) + run(0)
        before_load = plain() + live() + need() + with_plans + apart() + set_data(0, 1)
        self.assertEqual(answers(before_load), [1, -4] * 10)
        self.assertEqual(answers(load(" " * 4097)), [1, -1])
        self.assertEqual(answers(load("?")), [1, -2])
        self.assertEqual(answers(load("in a 1;in a 1;")), [1, -3])
        self.assertEqual(answers(load("in a 1;") + check()), [2, 1, 1, 1, -5])
        self.assertEqual(answers(load("in a 1;") + apart()), [2, 1, 1, 1, -10])

    def test_refused_calls_leave_the_next_ones_as_they_were(self):
        line = plain() + load("?") + load("in a 1;") + load("in b") + check(0, 0) + check(0)
        self.assertEqual(answers(line), [1, -4, 1, -2, 2, 1, 1, 1, -2, 1, -5, 1, 0])

    def test_numbers_of_calls_within_rows_are_no_calls(self):
        self.assertEqual(answers([0, 4, 2, 3, 4, 11, 2]), [1, -2, 1, -4])
        self.assertEqual(answers([5, 3, 2, 3, 4, 3]), [1, -4, 1, -4])
        for call in (6, 8, 10):
            self.assertEqual(answers([call, 3, 2, 11, 4, 3]), [1, -4, 1, -4])
        self.assertEqual(answers([7, 11, 3]), [1, -4, 1, -4])
        self.assertEqual(answers([9, 11, 2, 3, 4, 11]), [1, -4, 1, -4])

    def test_list_that_is_handed_in_stays(self):
        line = list(EVERY_CALL)
        answers(line)
        self.assertEqual(line, EVERY_CALL)

    def test_list_that_is_handed_in_is_not_changed_for_a_while(self):
        class Watched(list):
            def refuse(self, *given):
                raise AssertionError("the list was changed")

            append = extend = insert = pop = remove = clear = reverse = sort = refuse
            __setitem__ = __delitem__ = __iadd__ = __imul__ = refuse

        self.assertEqual(answers(Watched(EVERY_CALL)), answers(EVERY_CALL))

    def test_answer_is_a_new_list(self):
        line = load(TEXT) + live()
        first = answers(line)
        self.assertIsNot(first, line)
        first.clear()
        self.assertEqual(answers(line), [2, 3, 1, 7, 0, 0, 1, 1, 2, 2, 3])

    def test_same_list_twice(self):
        self.assertEqual(answers(EVERY_CALL), answers(EVERY_CALL))

    def test_nothing_is_left_of_an_earlier_list(self):
        answers(load(TEXT) + set_data(0, 5, 6))
        for call, refusal in (
            (plain(), NONE), (live(), NONE), (need(), NONE), (check(0, 0, 2), NONE), (room(0, 0, 2), NONE),
            (plan(1), NONE), (pack(0, 0, 2), NONE), (set_data(0, 5, 6), NONE), (run(0, 0, 2), NONE), (apart(), NONE),
            (load("?"), FORM),
        ):
            self.assertEqual(answers(call), [1] + refusal)
        self.assertEqual(answers(load("let d 2=map a;")), [1, -3])
        self.assertEqual(answers(load(TEXT) + apart() + run(0, 0, 2)), [2, 3, 1, 1, -10, 1, -10])

    def test_answers_are_whole_numbers(self):
        result = answers(EVERY_CALL)
        self.assertIs(type(result), list)
        self.assertEqual({type(number) for number in result}, {int})

    def test_nothing_is_printed_and_nothing_imported(self):
        before = set(sys.modules)
        out, err = io.StringIO(), io.StringIO()
        with contextlib.redirect_stdout(out), contextlib.redirect_stderr(err):
            answers(EVERY_CALL)
        self.assertEqual((out.getvalue(), err.getvalue()), ("", ""))
        self.assertEqual(set(sys.modules), before)

    def test_longest_lists(self):
        full = "".join(f"in a{k} 1;" for k in range(24))
        line = load(full) + check(*range(24)) * 149
        self.assertEqual(answers(line), [2, 24, 24] + [1, 0] * 149)
        downwards = list(range(23, -1, -1))
        self.assertEqual(answers(load(full) + pack(*downwards) * 149), [2, 24, 24] + ([25, 0] + downwards) * 149)
        text = "in a 1;" + "#" * 4089
        self.assertEqual(answers(where(text) * 4), [2, 0, 0] * 4)
        self.assertEqual(answers(where(";" * 5000) * 3), [2, 1, 0] * 3)

    def test_answers_that_are_long_together(self):
        text = "in a 64;" + "".join(f"out b{k} 64=map a a a a;" for k in range(23))
        one = [0] + ([64] + [(7 + 10 * number) % 1000003 for number in range(64)]) * 23
        result = answers(load(text) + set_data(0, *range(64)) + apart() * 148)
        self.assertEqual(result, [2, 24, 1, 1, 0] + ([len(one)] + one) * 148)

    def test_rows_of_1000_numbers(self):
        row = list(range(1000))
        calls = check(*row) + room(*row) + pack(*row) + set_data(0, *row) + run(*row)
        self.assertEqual(answers(load(TEXT) + calls * 3)[3:], [1, -5, 1, -5, 1, -5, 1, -9, 1, -5] * 3)

    def test_it_is_the_function_of_the_module(self):
        self.assertEqual(sharedrooms.planner.answers(calls=[2]), [1, -4])


if __name__ == "__main__":
    unittest.main()
