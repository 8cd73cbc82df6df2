"""Many made-up programs and plans, against the document's words written down a second time.

What stands here is worked out another way than in the package: texts by one
regular expression and a table of what may follow, live arrays time by time,
overlapping by the places themselves, placing by trying one offset after the
other, runs in a memory without bounds, and apart without any memory.
"""

import collections
import itertools
import random
import re
import unittest

from asking import (
    apart, ask, check, live, load, need, pack, plain, plan, room, run, set_data, take_apart, where,
)

from sharedrooms.planner import answers

TOKEN = re.compile(rb"([a-z][a-z0-9]*)|(0(?![0-9])|[1-9][0-9]*)|([;=])|((?:[ \t\n\r]|#[^\n]*)+)", re.DOTALL)
KEPT = (b"in", b"let", b"out", b"map", b"turn")


def tokens_of(text):
    position = 0
    while position < len(text):
        match = TOKEN.match(text, position)
        if match is None:
            yield "none", b"", position
            return
        if match.lastindex == 1 and match.group() in KEPT:
            yield match.group().decode(), match.group(), position
        elif match.lastindex == 1:
            yield "name" if len(match.group()) <= 16 else "none", match.group(), position
        elif match.lastindex == 2:
            yield "length" if int(match.group()) <= 64 else "none", match.group(), position
        elif match.lastindex == 3:
            yield match.group().decode(), match.group(), position
        position = match.end()
    yield "end", b"", len(text)


def next_state(state, kind, statements, inputs_may_come):
    table = {
        ("in", "name"): "in name", ("in name", "length"): "in length", ("in length", ";"): "begin",
        ("let", "name"): "let name", ("let name", "length"): "let length", ("let length", "="): "let =",
        ("let =", "map"): "way", ("let =", "turn"): "way", ("way", "name"): "1",
        ("1", "name"): "2", ("2", "name"): "3", ("3", "name"): "4",
        ("1", ";"): "begin", ("2", ";"): "begin", ("3", ";"): "begin", ("4", ";"): "begin",
    }
    if state != "begin":
        return table.get((state, kind))
    if kind == "end":
        return "done"
    if kind not in ("in", "let", "out") or statements == 24 or (kind == "in" and not inputs_may_come):
        return None
    return "in" if kind == "in" else "let"


def expected_where(text):
    """where's answer, and the statements as lists of tokens."""
    if len(text) > 4096:
        return [1, 0], []
    state, statements = "begin", []
    for kind, token, position in tokens_of(text):
        all_inputs = all(statement[0] == b"in" for statement in statements)
        new = next_state(state, kind, len(statements), all_inputs)
        if new is None:
            return [2, position], []
        if new == "done":
            break
        if state == "begin":
            statements.append([])
        statements[-1].append(token)
        state = new
    for number, statement in enumerate(statements):
        earlier = [other[1] for other in statements[:number]]
        if statement[1] in earlier or not set(statement[5:-1]) <= set(earlier):
            return [3, number], []
    return [0, 0], statements


def expected_plain(statements):
    lines = [b" ".join(statement[:-1]) + b";\n" for statement in statements]
    return [0] + list(b"".join(lines))


def live_times(statements):
    """For each array all times at which it is live."""
    inputs = sum(statement[0] == b"in" for statement in statements)
    end = len(statements) - inputs + 1
    times = []
    for number, statement in enumerate(statements):
        first = max(0, number - inputs + 1)
        uses = [later - inputs + 1 for later, other in enumerate(statements) if statement[1] in other[5:-1]]
        last = end if statement[0] == b"out" else max([first] + uses)
        times.append(set(range(first, last + 1)))
    return times, end


def expected_live(statements):
    return [0] + [bound for times in live_times(statements)[0] for bound in (min(times), max(times))]


def length(statement):
    return int(statement[2])


def takes_over(statements, times, b, a):
    return (
        statements[b][4:5] == [b"map"]
        and statements[a][1] in statements[b][5:-1]
        and length(statements[a]) == length(statements[b])
        and max(times[a]) == min(times[b])
    )


def expected_need(statements):
    times, end = live_times(statements)
    everything = range(len(statements))
    needs = []
    for time in range(end + 1):
        whole = sum(length(statements[a]) for a in everything if time in times[a])
        saved = [0] + [
            length(statements[a]) for b in everything if min(times[b]) == time
            for a in everything if takes_over(statements, times, b, a)
        ]
        needs.append(whole - max(saved))
    return [max(needs)]


def bits(offset, size):
    """The places of an array, each a bit of one number."""
    return (2 ** size - 1) << offset


def clashing(statements, times, plan, a, b):
    shared = takes_over(statements, times, max(a, b), min(a, b)) and plan[a] == plan[b]
    if shared or not times[a] & times[b]:
        return False
    return bits(plan[a], length(statements[a])) & bits(plan[b], length(statements[b])) != 0


def wrong_plan(statements, plan):
    return len(plan) != len(statements) or any(offset < 0 or offset > 10000 for offset in plan)


def expected_check(statements, plan):
    if wrong_plan(statements, plan):
        return [-5]
    times, end = live_times(statements)
    pairs = itertools.combinations(range(len(plan)), 2)
    clashes = [list(pair) for pair in pairs if clashing(statements, times, plan, *pair)]
    return [1] + min(clashes) if clashes else [0]


def expected_room(statements, plan):
    if wrong_plan(statements, plan):
        return [-5]
    return [max(bits(o, length(s)).bit_length() for o, s in zip(plan + [0], statements + [[0, 0, 0]], strict=True))]


def placed_in(statements, order):
    times, end = live_times(statements)
    plan = {}
    for number in order:
        for plan[number] in itertools.count():
            if not any(clashing(statements, times, plan, number, other) for other in plan if other != number):
                break
    return [plan[number] for number in range(len(statements))]


def expected_plan(statements, k):
    numbers = range(len(statements))
    if k == 0:
        return [0] + [sum(length(s) for s in statements[:number]) for number in numbers]
    if k == 1:
        return [0] + placed_in(statements, numbers)
    if k == 2:
        return [0] + placed_in(statements, sorted(numbers, key=lambda number: (-length(statements[number]), number)))
    return [-6]


def groups_of(statements, plan):
    times, end = live_times(statements)
    groups = [{number} for number in range(len(plan))]
    for a, b in itertools.combinations(range(len(plan)), 2):
        if length(statements[a]) and plan[a] == plan[b] and takes_over(statements, times, b, a):
            merged = set().union(*[group for group in groups if a in group or b in group])
            groups = [group for group in groups if not group & merged] + [merged]
    return sorted(groups, key=lambda group: (plan[min(group)], min(group)))


def expected_pack(statements, plan):
    checked = expected_check(statements, plan)
    if checked != [0]:
        return [-7] if checked[0] == 1 else checked
    times, end = live_times(statements)
    packed = {}
    for group in groups_of(statements, plan):
        near = [other for other in packed if any(times[other] & times[number] for number in group)]
        taken = [bits(packed[other], length(statements[other])) for other in near]
        size = length(statements[min(group)])
        offset = next(o for o in itertools.count() if not any(bits(o, size) & places for places in taken))
        packed.update({number: offset for number in group})
    return [0] + [packed[number] for number in range(len(plan))]


def element(statement, i, operands):
    """Element i out of pairs: an operand's length, and a function from an element's number to the element."""
    backwards = statement[4] == b"turn"
    terms = [11, i] if backwards else [7]
    for j, (size, get) in enumerate(operands):
        if size:
            terms += [get(size - i % size - 1 if backwards else i % size)] * (j + 1)
    return sum(terms) % 1000003


def expected_apart(statements, data):
    arrays = {}
    for number, statement in enumerate(statements):
        if statement[0] == b"in":
            if number not in data:
                return [-10]
            arrays[statement[1]] = data[number]
        else:
            operands = [(len(arrays[name]), arrays[name].__getitem__) for name in statement[5:-1]]
            arrays[statement[1]] = [element(statement, i, operands) for i in range(length(statement))]
    outs = [arrays[statement[1]] for statement in statements if statement[0] == b"out"]
    return [0] + [number for out in outs for number in [len(out)] + out]


def expected_run(statements, data, plan):
    if wrong_plan(statements, plan):
        return [-5]
    if expected_apart(statements, data) == [-10]:
        return [-10]
    memory = collections.defaultdict(int)
    offsets = {statement[1]: offset for statement, offset in zip(statements, plan, strict=True)}
    sizes = {statement[1]: length(statement) for statement in statements}
    for number, statement in enumerate(statements):
        begin = offsets[statement[1]]
        for i in range(length(statement)):
            if statement[0] == b"in":
                memory[begin + i] = data[number][i]
            else:
                operands = [(sizes[name], lambda k, o=offsets[name]: memory[o + k]) for name in statement[5:-1]]
                memory[begin + i] = element(statement, i, operands)
    answer = [0]
    for statement in statements:
        if statement[0] == b"out":
            begin = offsets[statement[1]]
            answer += [length(statement)] + [memory[begin + i] for i in range(length(statement))]
    return answer


def expected_set(statements, data, n, numbers):
    if n not in range(len(statements)) or statements[n][0] != b"in":
        return [-8]
    if len(numbers) != length(statements[n]) or any(number < 0 or number > 1000002 for number in numbers):
        return [-9]
    data[n] = list(numbers)
    return [0]


class Words:
    """What the document's words say of one line's calls."""

    def __init__(self):
        self.statements, self.data = None, {}

    def load(self, text):
        answer, statements = expected_where(text)
        if answer[0]:
            return [-answer[0]]
        self.statements, self.data = statements, {}
        return [len(statements), sum(statement[0] == b"in" for statement in statements)]

    def answer(self, name, *given):
        if name == "load":
            return self.load(*given)
        if name == "where":
            return expected_where(*given)[0]
        if self.statements is None:
            return [-4]
        if name in ("run", "apart", "set_data"):
            return {"run": expected_run, "apart": expected_apart, "set_data": expected_set}[name](
                self.statements, self.data, *given
            )
        return {
            "plain": expected_plain, "live": expected_live, "need": expected_need, "check": expected_check,
            "room": expected_room, "plan": expected_plan, "pack": expected_pack,
        }[name](self.statements, *given)


def made_up_operands(source, names, chained):
    if chained and source.random() < 0.7:
        return [source.choice(names[-2:])]
    near = names if source.random() < 0.3 else names[-3:]
    return [source.choice(near) for j in range(source.randint(1, 4))]


def made_up_program(source):
    # Chains of arrays of one length make long groups, which would come up seldom else.
    chained = source.random() < 0.4
    names, statements = [], []
    for k in range(source.choice((0, 1, 2, 3, 5, 8, 13, 24))):
        name = f"{source.choice('abxyz')}{k}"
        size = source.choice((2, 2, 2, 3) if chained else (0, 1, 2, 2, 3, 3, 3, 64))
        if k == 0 or (all(s.startswith("in") for s in statements) and source.random() < 0.5):
            statements.append(f"in {name} {size};")
        else:
            operands = made_up_operands(source, names, chained)
            word = source.choice(("let", "let", "let", "out"))
            way = source.choice(("map", "map", "turn"))
            statements.append(f"{word} {name} {size} = {way} {' '.join(operands)};")
        names.append(name)
    return source.choice(("", " ", "\n", "# x\n")).join(statements).encode()


def spoil(source, text):
    pieces = (
        b"in", b"let", b"out", b"map", b"turn", b" ", b"\t", b"\r", b"\n", b"#", b";", b"=", b"0", b"07", b"65", b"64",
        b"a", b"x0", b"a0", b"?", b"\x00", b"\xff", b"A", b"abcdefghijklmnop", b"abcdefghijklmnopq", b"in q 1;",
    )
    for step in range(source.randint(1, 3)):
        begin = source.randint(0, len(text))
        end = min(len(text), begin + source.choice((0, 0, 1, 1, 2, 5, 1000)))
        text = text[:begin] + source.choice(pieces + (b"",) * 10) + text[end:]
    return text


def spoil_plan(source, offsets):
    if source.random() < 0.95:
        return offsets
    return source.choice((offsets[1:], offsets + [0], offsets[:-1] + [-1], offsets[:-1] + [10001]))


def sound_plan(source, statements):
    """Placed in some order, then drawn apart, and sometimes upside down, by which no two begin to clash."""
    numbers = list(range(len(statements)))
    if source.random() < 0.5:
        source.shuffle(numbers)
    offsets = placed_in(statements, numbers)
    stretch = source.choice((1, 1, 2, 6))
    offsets = [stretch * offset for offset in offsets]
    if source.random() < 0.5:
        offsets = [9500 - offset - length(s) for offset, s in zip(offsets, statements, strict=True)]
    free = [length(s) == 0 for s in statements]
    return [source.randint(0, 10000) if f else offset for offset, f in zip(offsets, free, strict=True)]


def made_up_plan(source, statements):
    if source.random() < 0.5:
        return spoil_plan(source, sound_plan(source, statements))
    width = source.choice((0, 3, 10, 200, 10000))
    return spoil_plan(source, [source.randint(0, width) for statement in statements])


def made_up_data(source, size):
    greatest = source.choice((0, 1, 9, 1000002))
    return [source.randint(greatest // 2, greatest) for place in range(size)]


def made_up_set(source, words):
    inputs = [n for n, statement in enumerate(words.statements or []) if statement[0] == b"in"]
    without = [n for n in inputs if n not in words.data]
    n = source.choice(without or inputs or [0])
    data = made_up_data(source, length(words.statements[n]) if inputs else 1)
    if source.random() < 0.2:
        n = source.choice((-1, len(inputs), len(words.statements or []), 23, 24, 10 ** 18, -10 ** 18))
    if source.random() < 0.2:
        data = source.choice((data[1:], data + [0], data[:-1] + [-1], [1000003] + data[1:], data[:-1] + [10 ** 18]))
    return n, data


WRITTEN = {
    "load": load, "where": where, "plain": plain, "live": live, "need": need, "apart": apart, "plan": plan,
    "check": lambda offsets: check(*offsets), "room": lambda offsets: room(*offsets),
    "pack": lambda offsets: pack(*offsets), "run": lambda offsets: run(*offsets),
    "set_data": lambda n, data: set_data(n, *data),
}
# How often a call comes in the long lists, and the refusals that must come up there.
WEIGHTS = {"load": 12, "set_data": 40, "run": 20, "pack": 14, "plan": 10, "room": 6, "check": 8, "apart": 10}
REFUSED = {
    "load": (-1, -2, -3), "plain": (-4,), "live": (-4,), "need": (-4,), "check": (-4, -5), "room": (-4, -5),
    "plan": (-4, -6), "pack": (-4, -5, -7), "set_data": (-4, -8, -9), "run": (-4, -5, -10), "apart": (-4, -10),
}


def made_up_call(source, words):
    """A call's name, and what is given with it."""
    name = source.choices(list(WRITTEN), [WEIGHTS.get(name, 4) for name in WRITTEN])[0]
    if name in ("load", "where"):
        text = made_up_program(source)
        spoiled = source.choice((text, text, text, spoil(source, text), spoil(source, text), text + text))
        return name, (spoiled if source.random() < 0.98 else b" " * 4097,)
    if name in ("check", "room", "pack", "run"):
        return name, (made_up_plan(source, words.statements or []),)
    if name == "plan":
        return name, (source.choice((0, 1, 1, 2, 2, -1, 3, 10 ** 18)),)
    if name == "set_data":
        return name, made_up_set(source, words)
    return name, ()


class AgainstWordsTest(unittest.TestCase):
    def test_texts(self):
        source = random.Random(20)
        kinds = {}
        for step in range(3000):
            text = spoil(source, made_up_program(source))
            answer, statements = expected_where(text)
            inputs = sum(statement[0] == b"in" for statement in statements)
            loaded = [-answer[0]] if answer[0] else [len(statements), inputs]
            shown = [-4] if answer[0] else expected_plain(statements)
            self.assertEqual(ask(where(text), load(text), plain()), [answer, loaded, shown], text)
            kinds[answer[0]] = kinds.get(answer[0], 0) + 1
        self.assertTrue(all(kinds.get(kind, 0) > 50 for kind in (0, 2, 3)), kinds)

    def test_times_and_plans(self):
        source = random.Random(21)
        verdicts = {}
        for step in range(600):
            text = made_up_program(source)
            answer, statements = expected_where(text)
            self.assertEqual(answer, [0, 0], text)
            expected = [expected_live(statements), expected_need(statements)]
            self.assertEqual(ask(load(text), live(), need())[1:], expected, text)
            for width in (0, 4, 8, 40, 500, 10000):
                offsets = spoil_plan(source, [source.randint(0, width) for statement in statements])
                expected = [expected_check(statements, offsets), expected_room(statements, offsets)]
                self.assertEqual(ask(load(text), check(*offsets), room(*offsets))[1:], expected, (text, offsets))
                verdicts[expected[0][0]] = verdicts.get(expected[0][0], 0) + 1
        self.assertTrue(all(verdicts.get(verdict, 0) > 50 for verdict in (0, 1, -5)), verdicts)

    def test_plans_that_are_made(self):
        source = random.Random(22)
        for step in range(500):
            text = made_up_program(source)
            statements = expected_where(text)[1]
            made = ask(load(text), plan(0), plan(1), plan(2))[1:]
            self.assertEqual(made, [expected_plan(statements, k) for k in range(3)], text)
            for offsets in made:
                self.assertEqual(expected_check(statements, offsets[1:]), [0], (text, offsets))

    def test_plans_that_are_packed(self):
        source = random.Random(23)
        several = 0
        for step in range(500):
            text = made_up_program(source)
            statements = expected_where(text)[1]
            given = sound_plan(source, statements)
            packed = ask(load(text), pack(*given))[1]
            self.assertEqual(packed, expected_pack(statements, given), (text, given))
            self.assertEqual(expected_check(statements, packed[1:]), [0], (text, given))
            self.assertTrue(all(new <= old for new, old in zip(packed[1:], given, strict=True)), (text, given))
            several += any(len(group) > 2 for group in groups_of(statements, given))
        self.assertGreater(several, 25)

    def test_runs(self):
        source = random.Random(24)
        others = 0
        for step in range(400):
            text = made_up_program(source)
            statements = expected_where(text)[1]
            data = {n: made_up_data(source, length(s)) for n, s in enumerate(statements) if s[0] == b"in"}
            sets = [set_data(n, *numbers) for n, numbers in data.items()]
            sound, tight = sound_plan(source, statements), [source.randint(0, 12) for statement in statements]
            alone, by_sound, by_tight = ask(load(text), *sets, apart(), run(*sound), run(*tight))[-3:]
            self.assertEqual(alone, expected_apart(statements, data), text)
            self.assertEqual(by_sound, alone, (text, sound))
            self.assertEqual(by_tight, expected_run(statements, data, tight), (text, tight))
            others += by_tight != alone
        self.assertGreater(others, 50)

    def test_long_lists_of_every_kind_of_call(self):
        source = random.Random(25)
        came = collections.Counter()
        for step in range(60):
            words, line, expected = Words(), [], []
            while len(expected) < 150:
                name, given = made_up_call(source, words)
                numbers = WRITTEN[name](*given)
                if len(line) + len(numbers) > 17000:
                    break
                line += numbers
                expected.append(words.answer(name, *given))
                came[name, min(expected[-1][0], 0)] += 1
            before = list(line)
            got = answers(line)
            self.assertEqual(take_apart(got), expected, line)
            self.assertEqual(line, before)
            self.assertEqual(answers(line), got)
        for name in WRITTEN:
            for first in (0,) + REFUSED.get(name, ()):
                self.assertGreater(came[name, first], 5, (name, first))


if __name__ == "__main__":
    unittest.main()
