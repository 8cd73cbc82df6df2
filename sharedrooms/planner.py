"""The calls on one object, one behind another, and their answers."""

from sharedrooms.packing import packed_plan
from sharedrooms.placing import plan_in_order, plan_longest_first, plan_one_behind_another
from sharedrooms.plans import first_clash, look_at_plan, room_of
from sharedrooms.program import input_numbers, plain_text
from sharedrooms.reading import read_program
from sharedrooms.refusals import AbsentInput, BeyondLimit, ClashingPlan, MissingData, NoProgram, Refusal
from sharedrooms.refusals import TooLong, WrongData, WrongForm, WrongName
from sharedrooms.running import is_element, run_by_plan
from sharedrooms.times import live_ranges, needed_at_least

LOAD = 0
WHERE = 1
PLAIN = 2
LIVE = 3
NEED = 4
CHECK = 5
ROOM = 6
PLAN = 7
PACK = 8
SET_DATA = 9
RUN = 10
APART = 11
CALLS_WITH_NUMBER = (7, 9)
CALLS_WITH_ROW = (0, 1, 5, 6, 8, 9, 10)

ONE_BEHIND_ANOTHER = 0
IN_ORDER = 1
LONGEST_FIRST = 2


class Rooms:
    # data holds the data of each input that has some, by the input's number.
    def __init__(self):
        self.program = None
        self.data = {}

    def held_program(self):
        if self.program is None:
            raise NoProgram()
        return self.program

    def load(self, text):
        # Read first: a refused text must leave the program and the data.
        program = read_program(text)
        self.program = program
        self.data = {}
        return [len(program.statements), len(input_numbers(program))]

    def where(self, text):
        try:
            read_program(text)
        except TooLong:
            return [1, 0]
        except WrongForm as e:
            return [2, e.position]
        except WrongName as e:
            return [3, e.statement_number]
        return [0, 0]

    def plain(self):
        return [0] + [ord(sign) for sign in plain_text(self.held_program())]

    def live(self):
        answer = [0]
        for first, last in live_ranges(self.held_program()):
            answer.extend([first, last])
        return answer

    def need(self):
        return [needed_at_least(self.held_program())]

    def check(self, plan):
        program = self.held_program()
        look_at_plan(program, plan)
        pair = first_clash(program, plan)
        if len(pair) == 0:
            return [0]
        return [1] + pair

    def room(self, plan):
        program = self.held_program()
        look_at_plan(program, plan)
        return [room_of(program, plan)]

    def plan(self, kind):
        program = self.held_program()
        if kind == ONE_BEHIND_ANOTHER:
            return [0] + plan_one_behind_another(program)
        if kind == IN_ORDER:
            return [0] + plan_in_order(program)
        if kind == LONGEST_FIRST:
            return [0] + plan_longest_first(program)
        raise BeyondLimit()

    def pack(self, plan):
        program = self.held_program()
        look_at_plan(program, plan)
        if len(first_clash(program, plan)) > 0:
            raise ClashingPlan()
        return [0] + packed_plan(program, plan)

    def set_data(self, number, data):
        program = self.held_program()
        if number not in input_numbers(program):
            raise AbsentInput()
        if len(data) != program.statements[number].length:
            raise WrongData()
        for element in data:
            if not is_element(element):
                raise WrongData()
        self.data[number] = list(data)
        return [0]

    def look_for_data(self, program):
        for number in input_numbers(program):
            if number not in self.data:
                raise MissingData()

    def run(self, plan):
        program = self.held_program()
        look_at_plan(program, plan)
        self.look_for_data(program)
        return [0] + run_by_plan(program, self.data, plan)

    # One behind another no two arrays share a place, so each is kept by itself.
    def apart(self):
        program = self.held_program()
        self.look_for_data(program)
        return [0] + run_by_plan(program, self.data, plan_one_behind_another(program))


def work_call(rooms, call, number, row):
    if call == LOAD:
        return rooms.load(row)
    if call == WHERE:
        return rooms.where(row)
    if call == PLAIN:
        return rooms.plain()
    if call == LIVE:
        return rooms.live()
    if call == NEED:
        return rooms.need()
    if call == CHECK:
        return rooms.check(row)
    if call == ROOM:
        return rooms.room(row)
    if call == PLAN:
        return rooms.plan(number)
    if call == PACK:
        return rooms.pack(row)
    if call == SET_DATA:
        return rooms.set_data(number, row)
    if call == RUN:
        return rooms.run(row)
    if call == APART:
        return rooms.apart()
    raise NotImplementedError("no such call")


def answer_call(rooms, call, number, row):
    try:
        return work_call(rooms, call, number, row)
    except Refusal as e:
        return [e.number]


def answers(calls):
    rooms = Rooms()
    answered = []
    position = 0
    while position < len(calls):
        call = calls[position]
        position += 1
        number = 0
        if call in CALLS_WITH_NUMBER:
            number = calls[position]
            position += 1
        row = []
        if call in CALLS_WITH_ROW:
            row_end = position + 1 + calls[position]
            row = calls[position + 1:row_end]
            position = row_end
        answer = answer_call(rooms, call, number, row)
        answered.append(len(answer))
        answered.extend(answer)
    return answered
