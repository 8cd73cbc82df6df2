"""Many made-up programs and plans, against the document's words written down a second time.

What stands here is worked out another way than in the package: texts by one
regular expression and a table of what may follow, live arrays time by time,
overlapping by the places themselves.
"""

import random
import re
import unittest

from asking import ask, check, live, load, need, plain, where

TOKEN = re.compile(rb"([a-z][a-z0-9]*)|(0(?![0-9])|[1-9][0-9]*)|([;=])|((?:[ \t\n\r]|#[^\n]*)+)", re.DOTALL)
KEPT = (b"in", b"let", b"out", b"map", b"turn")


def tokens_of(text):
    position = 0
    while position < len(text):
        match = TOKEN.match(text, position)
        if match is None:
            yield "none", b"", position
            return
        if match.lastindex == 1 and match.group() in KEPT:
            yield match.group().decode(), match.group(), position
        elif match.lastindex == 1:
            yield "name" if len(match.group()) <= 16 else "none", match.group(), position
        elif match.lastindex == 2:
            yield "length" if int(match.group()) <= 64 else "none", match.group(), position
        elif match.lastindex == 3:
            yield match.group().decode(), match.group(), position
        position = match.end()
    yield "end", b"", len(text)


def next_state(state, kind, statements, inputs_may_come):
    table = {
        ("in", "name"): "in name", ("in name", "length"): "in length", ("in length", ";"): "begin",
        ("let", "name"): "let name", ("let name", "length"): "let length", ("let length", "="): "let =",
        ("let =", "map"): "way", ("let =", "turn"): "way", ("way", "name"): "1",
        ("1", "name"): "2", ("2", "name"): "3", ("3", "name"): "4",
        ("1", ";"): "begin", ("2", ";"): "begin", ("3", ";"): "begin", ("4", ";"): "begin",
    }
    if state != "begin":
        return table.get((state, kind))
    if kind == "end":
        return "done"
    if kind not in ("in", "let", "out") or statements == 24 or (kind == "in" and not inputs_may_come):
        return None
    return "in" if kind == "in" else "let"


def expected_where(text):
    """where's answer, and the statements as lists of tokens."""
    if len(text) > 4096:
        return [1, 0], []
    state, statements = "begin", []
    for kind, token, position in tokens_of(text):
        all_inputs = all(statement[0] == b"in" for statement in statements)
        new = next_state(state, kind, len(statements), all_inputs)
        if new is None:
            return [2, position], []
        if new == "done":
            break
        if state == "begin":
            statements.append([])
        statements[-1].append(token)
        state = new
    for number, statement in enumerate(statements):
        earlier = [other[1] for other in statements[:number]]
        if statement[1] in earlier or not set(statement[5:-1]) <= set(earlier):
            return [3, number], []
    return [0, 0], statements


def expected_plain(statements):
    lines = [b" ".join(statement[:-1]) + b";\n" for statement in statements]
    return [0] + list(b"".join(lines))


def live_times(statements):
    """For each array all times at which it is live."""
    inputs = sum(statement[0] == b"in" for statement in statements)
    end = len(statements) - inputs + 1
    times = []
    for number, statement in enumerate(statements):
        first = max(0, number - inputs + 1)
        uses = [later - inputs + 1 for later, other in enumerate(statements) if statement[1] in other[5:-1]]
        last = end if statement[0] == b"out" else max([first] + uses)
        times.append(set(range(first, last + 1)))
    return times, end


def length(statement):
    return int(statement[2])


def takes_over(statements, times, b, a):
    return (
        statements[b][4:5] == [b"map"]
        and statements[a][1] in statements[b][5:-1]
        and length(statements[a]) == length(statements[b])
        and max(times[a]) == min(times[b])
    )


def expected_need(statements):
    times, end = live_times(statements)
    everything = range(len(statements))
    needs = []
    for time in range(end + 1):
        whole = sum(length(statements[a]) for a in everything if time in times[a])
        saved = [0] + [
            length(statements[a]) for b in everything if min(times[b]) == time
            for a in everything if takes_over(statements, times, b, a)
        ]
        needs.append(whole - max(saved))
    return [max(needs)]


def expected_check(statements, plan):
    if len(plan) != len(statements) or any(offset < 0 or offset > 10000 for offset in plan):
        return [-5]
    times, end = live_times(statements)
    places = [set(range(o, o + length(s))) for o, s in zip(plan, statements, strict=True)]
    pairs = []
    for b in range(len(plan)):
        for a in range(b):
            shared = plan[a] == plan[b] and takes_over(statements, times, b, a)
            if times[a] & times[b] and places[a] & places[b] and not shared:
                pairs.append([a, b])
    return [1] + min(pairs) if pairs else [0]


def made_up_program(source):
    names, statements = [], []
    for k in range(source.choice((0, 1, 2, 3, 5, 8, 13, 24))):
        name = f"{source.choice('abxyz')}{k}"
        size = source.choice((0, 1, 2, 2, 3, 3, 3, 64))
        if k == 0 or (all(s.startswith("in") for s in statements) and source.random() < 0.5):
            statements.append(f"in {name} {size};")
        else:
            near = names if source.random() < 0.3 else names[-3:]
            operands = [source.choice(near) for j in range(source.randint(1, 4))]
            word = source.choice(("let", "let", "let", "out"))
            way = source.choice(("map", "map", "turn"))
            statements.append(f"{word} {name} {size} = {way} {' '.join(operands)};")
        names.append(name)
    return source.choice(("", " ", "\n", "# x\n")).join(statements).encode()


def spoil(source, text):
    pieces = (
        b"in", b"let", b"out", b"map", b"turn", b" ", b"\t", b"\r", b"\n", b"#", b";", b"=", b"0", b"07", b"65", b"64",
        b"a", b"x0", b"a0", b"?", b"\x00", b"\xff", b"A", b"abcdefghijklmnop", b"abcdefghijklmnopq", b"in q 1;",
    )
    for step in range(source.randint(1, 3)):
        begin = source.randint(0, len(text))
        end = min(len(text), begin + source.choice((0, 0, 1, 1, 2, 5, 1000)))
        text = text[:begin] + source.choice(pieces + (b"",) * 10) + text[end:]
    return text


class AgainstWordsTest(unittest.TestCase):
    def test_texts(self):
        source = random.Random(20)
        kinds = {}
        for step in range(3000):
            text = spoil(source, made_up_program(source))
            answer, statements = expected_where(text)
            inputs = sum(statement[0] == b"in" for statement in statements)
            loaded = [-answer[0]] if answer[0] else [len(statements), inputs]
            shown = [-4] if answer[0] else expected_plain(statements)
            self.assertEqual(ask(where(text), load(text), plain()), [answer, loaded, shown], text)
            kinds[answer[0]] = kinds.get(answer[0], 0) + 1
        self.assertTrue(all(kinds.get(kind, 0) > 50 for kind in (0, 2, 3)), kinds)

    def test_times_and_plans(self):
        source = random.Random(21)
        verdicts = {}
        for step in range(600):
            text = made_up_program(source)
            answer, statements = expected_where(text)
            self.assertEqual(answer, [0, 0], text)
            ranges = [bound for times in live_times(statements)[0] for bound in (min(times), max(times))]
            self.assertEqual(ask(load(text), live(), need())[1:], [[0] + ranges, expected_need(statements)], text)
            for width in (0, 4, 8, 40, 500, 10000):
                plan = [source.randint(0, width) for statement in statements]
                if source.random() < 0.05:
                    plan = source.choice((plan[1:], plan + [0], plan[:-1] + [-1], plan[:-1] + [10001]))
                expected = expected_check(statements, plan)
                self.assertEqual(ask(load(text), check(*plan))[1], expected, (text, plan))
                verdicts[expected[0]] = verdicts.get(expected[0], 0) + 1
        self.assertTrue(all(verdicts.get(verdict, 0) > 50 for verdict in (0, 1, -5)), verdicts)


if __name__ == "__main__":
    unittest.main()
