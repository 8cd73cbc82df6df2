"""Plans: whether one fits the program, which arrays clash in it, and the room it takes."""

from sharedrooms.refusals import WrongPlan
from sharedrooms.times import live_ranges, may_take_over

OFFSET_LIMIT = 10000


def look_at_plan(program, plan):
    if len(plan) != len(program.statements):
        raise WrongPlan()
    for offset in plan:
        if offset < 0 or offset > OFFSET_LIMIT:
            raise WrongPlan()


def both_have_places(program, a, b):
    return program.statements[a].length > 0 and program.statements[b].length > 0


def meet(program, ranges, a, b):
    if not both_have_places(program, a, b):
        return False
    return ranges[a][0] <= ranges[b][1] and ranges[b][0] <= ranges[a][1]


def overlap(program, plan, a, b):
    if not both_have_places(program, a, b):
        return False
    a_end = plan[a] + program.statements[a].length
    b_end = plan[b] + program.statements[b].length
    return plan[a] < b_end and plan[b] < a_end


def shares_by_taking_over(program, ranges, plan, a, b):
    if plan[a] != plan[b]:
        return False
    return may_take_over(program, ranges, a, b) or may_take_over(program, ranges, b, a)


def clash(program, ranges, plan, a, b):
    if not meet(program, ranges, a, b) or not overlap(program, plan, a, b):
        return False
    return not shares_by_taking_over(program, ranges, plan, a, b)


# The first pair of arrays that clash, or an empty list if the plan is sound.
def first_clash(program, plan):
    ranges = live_ranges(program)
    for a in range(len(plan)):
        for b in range(a + 1, len(plan)):
            if clash(program, ranges, plan, a, b):
                return [a, b]
    return []


def room_of(program, plan):
    room = 0
    for number, statement in enumerate(program.statements):
        if statement.length > 0:
            room = max(room, plan[number] + statement.length)
    return room
