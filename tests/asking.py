"""What the tests share: calls written by name, and answers taken apart call by call."""

from sharedrooms.planner import answers

LONG = [-1]
FORM = [-2]
NAME = [-3]
NONE = [-4]
PLAN = [-5]
LIMIT = [-6]
CLASH = [-7]
ABSENT = [-8]
DATA = [-9]
MISSING = [-10]


def as_bytes(text):
    return list(text.encode("latin-1")) if isinstance(text, str) else list(text)


def row(numbers):
    return [len(numbers)] + list(numbers)


def load(text):
    return [0] + row(as_bytes(text))


def where(text):
    return [1] + row(as_bytes(text))


def plain():
    return [2]


def live():
    return [3]


def need():
    return [4]


def check(*plan):
    return [5] + row(plan)


def room(*plan):
    return [6] + row(plan)


def plan(k):
    return [7, k]


def pack(*plan):
    return [8] + row(plan)


def set_data(n, *data):
    return [9, n] + row(data)


def run(*plan):
    return [10] + row(plan)


def apart():
    return [11]


def take_apart(numbers):
    parts = []
    position = 0
    while position < len(numbers):
        count = numbers[position]
        part = numbers[position + 1:position + 1 + count]
        if count < 1 or len(part) != count:
            raise AssertionError(f"the counts do not fit: {numbers}")
        parts.append(part)
        position += 1 + count
    return parts


def ask(*calls):
    line = [number for call in calls for number in call]
    parts = take_apart(answers(line))
    if len(parts) != len(calls):
        raise AssertionError(f"{len(calls)} calls, but {len(parts)} answers")
    return parts


def ask_of(text, *calls):
    parts = ask(load(text), *calls)
    if parts[0][0] < 0:
        raise AssertionError(f"load refused {text!r}: {parts[0]}")
    return parts[1:]
