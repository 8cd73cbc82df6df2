"""Plans that are made: arrays one behind the other, or placed as low as those before them allow."""

from sharedrooms.plans import clash
from sharedrooms.times import live_ranges


# The smallest offset that is free is 0, or lies right behind a placed array, or is
# the offset of one that may be shared: below any other free one there is another.
def possible_offsets(program, plan, placed):
    offsets = [0]
    for other in placed:
        offsets.extend([plan[other], plan[other] + program.statements[other].length])
    return sorted(set(offsets))


def clashes_with_any(program, ranges, plan, number, placed):
    for other in placed:
        if clash(program, ranges, plan, number, other):
            return True
    return False


def place(program, ranges, plan, number, placed):
    offsets = possible_offsets(program, plan, placed)
    for offset in offsets:
        plan[number] = offset
        if not clashes_with_any(program, ranges, plan, number, placed):
            return


def placed_plan(program, order):
    ranges = live_ranges(program)
    plan = [0] * len(order)
    placed = []
    for number in order:
        place(program, ranges, plan, number, placed)
        placed.append(number)
    return plan


def plan_one_behind_another(program):
    plan = []
    offset = 0
    for statement in program.statements:
        plan.append(offset)
        offset += statement.length
    return plan


def plan_in_order(program):
    return placed_plan(program, list(range(len(program.statements))))


def plan_longest_first(program):
    lengths = [statement.length for statement in program.statements]
    # Sorting keeps arrays of one length in order of their numbers.
    order = sorted(range(len(lengths)), key=lambda number: -lengths[number])
    return placed_plan(program, order)
