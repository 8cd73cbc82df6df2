"""The calls on one object, one behind another, and their answers."""

from sharedrooms.plans import first_clash, look_at_plan
from sharedrooms.program import input_numbers, plain_text
from sharedrooms.reading import read_program
from sharedrooms.refusals import MissingData, NoProgram, Refusal, TooLong, WrongForm, WrongName
from sharedrooms.times import live_ranges, needed_at_least

LOAD = 0
WHERE = 1
PLAIN = 2
LIVE = 3
NEED = 4
CHECK = 5
APART = 11
CALLS_WITH_ROW = (0, 1, 5)


class Rooms:
    # data holds the data of each input that has some, by the input's number.
    def __init__(self):
        self.program = None
        self.data = {}

    def held_program(self):
        if self.program is None:
            raise NoProgram()
        return self.program

    def load(self, text):
        # Read first: a refused text must leave the program and the data.
        program = read_program(text)
        self.program = program
        self.data = {}
        return [len(program.statements), len(input_numbers(program))]

    def where(self, text):
        try:
            read_program(text)
        except TooLong:
            return [1, 0]
        except WrongForm as e:
            return [2, e.position]
        except WrongName as e:
            return [3, e.statement_number]
        return [0, 0]

    def plain(self):
        return [0] + [ord(sign) for sign in plain_text(self.held_program())]

    def live(self):
        answer = [0]
        for first, last in live_ranges(self.held_program()):
            answer.extend([first, last])
        return answer

    def need(self):
        return [needed_at_least(self.held_program())]

    def check(self, plan):
        program = self.held_program()
        look_at_plan(program, plan)
        pair = first_clash(program, plan)
        if len(pair) == 0:
            return [0]
        return [1] + pair

    def apart(self):
        for number in input_numbers(self.held_program()):
            if number not in self.data:
                raise MissingData()
        # No call gives an input data, so the program has no inputs here; then it
        # has no statements at all, since the first one could have no operand.
        return [0]


def work_call(rooms, number, row):
    if number == LOAD:
        return rooms.load(row)
    if number == WHERE:
        return rooms.where(row)
    if number == PLAIN:
        return rooms.plain()
    if number == LIVE:
        return rooms.live()
    if number == NEED:
        return rooms.need()
    if number == CHECK:
        return rooms.check(row)
    if number == APART:
        return rooms.apart()
    raise NotImplementedError("no such call")


def answer_call(rooms, number, row):
    try:
        return work_call(rooms, number, row)
    except Refusal as e:
        return [e.number]


def answers(calls):
    rooms = Rooms()
    answered = []
    position = 0
    while position < len(calls):
        number = calls[position]
        position += 1
        row = []
        if number in CALLS_WITH_ROW:
            row_end = position + 1 + calls[position]
            row = calls[position + 1:row_end]
            position = row_end
        answer = answer_call(rooms, number, row)
        answered.append(len(answer))
        answered.extend(answer)
    return answered
