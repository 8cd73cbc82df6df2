"""The interface: how calls stand in the list, and how their answers are counted."""

import contextlib
import io
import sys
import unittest

from asking import FORM, NONE, apart, check, live, load, need, plain, where

import sharedrooms.planner
from sharedrooms.planner import answers

TEXT = "in a 2;let b 2=map a;out c 2=turn b;"


class InterfaceTest(unittest.TestCase):
    def test_calls_are_written_as_told(self):
        self.assertEqual(answers([0, 7, 105, 110, 32, 97, 32, 50, 59]), [2, 1, 1])
        self.assertEqual(answers([1, 1, 63]), [2, 2, 0])
        self.assertEqual(answers([0, 0, 2, 3, 4, 5, 0, 11]), [2, 0, 0, 1, 0, 1, 0, 1, 0, 1, 0, 1, 0])

    def test_several_calls_each_with_its_count(self):
        line = load(TEXT) + live() + need() + check(0, 0, 0) + check(0, 0, 2) + check(0) + apart() + where("?")
        expected = [2, 3, 1] + [7, 0, 0, 1, 1, 2, 2, 3] + [1, 4] + [3, 1, 1, 2] + [1, 0] + [1, -5] + [1, -10]
        self.assertEqual(answers(line), expected + [2, 2, 0])

    def test_each_refusal_stands_alone(self):
        before_load = plain() + live() + need() + check(0) + apart()
        self.assertEqual(answers(before_load), [1, -4] * 5)
        self.assertEqual(answers(load(" " * 4097)), [1, -1])
        self.assertEqual(answers(load("?")), [1, -2])
        self.assertEqual(answers(load("in a 1;in a 1;")), [1, -3])
        self.assertEqual(answers(load("in a 1;") + check()), [2, 1, 1, 1, -5])
        self.assertEqual(answers(load("in a 1;") + apart()), [2, 1, 1, 1, -10])

    def test_refused_calls_leave_the_next_ones_as_they_were(self):
        line = plain() + load("?") + load("in a 1;") + load("in b") + check(0, 0) + check(0)
        self.assertEqual(answers(line), [1, -4, 1, -2, 2, 1, 1, 1, -2, 1, -5, 1, 0])

    def test_numbers_of_calls_within_rows_are_no_calls(self):
        self.assertEqual(answers([0, 4, 2, 3, 4, 11, 2]), [1, -2, 1, -4])
        self.assertEqual(answers([5, 3, 2, 3, 4, 3]), [1, -4, 1, -4])

    def test_list_that_is_handed_in_stays(self):
        line = load(TEXT) + plain() + check(0, 0, 0) + check(-1) + load("?") + where(TEXT) + live()
        before = list(line)
        answers(line)
        self.assertEqual(line, before)

    def test_answer_is_a_new_list(self):
        line = load(TEXT) + live()
        first = answers(line)
        self.assertIsNot(first, line)
        first.clear()
        self.assertEqual(answers(line), [2, 3, 1, 7, 0, 0, 1, 1, 2, 2, 3])

    def test_same_list_twice(self):
        line = load(TEXT) + plain() + live() + need() + check(0, 0, 0) + apart()
        self.assertEqual(answers(line), answers(line))

    def test_nothing_is_left_of_an_earlier_list(self):
        answers(load(TEXT))
        for call, refusal in ((plain(), NONE), (live(), NONE), (need(), NONE), (apart(), NONE), (load("?"), FORM)):
            self.assertEqual(answers(call), [1] + refusal)
        self.assertEqual(answers(load("let d 2=map a;")), [1, -3])

    def test_answers_are_whole_numbers(self):
        line = load(TEXT) + where(TEXT) + plain() + live() + need() + check(0, 0, 0) + check(0, 0, 2) + apart()
        result = answers(line)
        self.assertIs(type(result), list)
        self.assertEqual({type(number) for number in result}, {int})

    def test_nothing_is_printed_and_nothing_imported(self):
        before = set(sys.modules)
        out, err = io.StringIO(), io.StringIO()
        with contextlib.redirect_stdout(out), contextlib.redirect_stderr(err):
            answers(load(TEXT) + plain() + live() + need() + check(0) + apart() + where("?"))
        self.assertEqual((out.getvalue(), err.getvalue()), ("", ""))
        self.assertEqual(set(sys.modules), before)

    def test_longest_lists(self):
        full = "".join(f"in a{k} 1;" for k in range(24))
        line = load(full) + check(*range(24)) * 149
        self.assertEqual(answers(line), [2, 24, 24] + [1, 0] * 149)
        text = "in a 1;" + "#" * 4089
        self.assertEqual(answers(where(text) * 4), [2, 0, 0] * 4)
        self.assertEqual(answers(where(";" * 5000) * 3), [2, 1, 0] * 3)

    def test_it_is_the_function_of_the_module(self):
        self.assertEqual(sharedrooms.planner.answers(calls=[2]), [1, -4])


if __name__ == "__main__":
    unittest.main()
