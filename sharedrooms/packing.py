"""Packing a sound plan closer, where arrays that sit on one another stay together."""

from sharedrooms.placing import possible_offsets
from sharedrooms.plans import meet, overlap, shares_by_taking_over
from sharedrooms.times import live_ranges


def sits_on(program, ranges, plan, a, b):
    return program.statements[a].length > 0 and shares_by_taking_over(program, ranges, plan, a, b)


def group_of(program, ranges, plan, number):
    members = [number]
    looked_at = 0
    while looked_at < len(members):
        for other in range(len(plan)):
            if other not in members and sits_on(program, ranges, plan, members[looked_at], other):
                members.append(other)
        looked_at += 1
    return members


# Each group begins with its smallest number, since it is found from there.
def groups_in_order(program, ranges, plan):
    groups = []
    grouped = {}
    for number in range(len(plan)):
        if number not in grouped:
            members = group_of(program, ranges, plan, number)
            groups.append(members)
            for member in members:
                grouped[member] = True
    return sorted(groups, key=lambda group: (plan[group[0]], group[0]))


# Taking over counts for nothing here: what may share a place is in one group.
def is_in_the_way(program, ranges, plan, members, placed):
    for member in members:
        for other in placed:
            if meet(program, ranges, member, other) and overlap(program, plan, member, other):
                return True
    return False


def place_group(program, ranges, plan, members, placed):
    offsets = possible_offsets(program, plan, placed)
    for offset in offsets:
        for member in members:
            plan[member] = offset
        if not is_in_the_way(program, ranges, plan, members, placed):
            return


def packed_plan(program, plan):
    ranges = live_ranges(program)
    packed = [0] * len(plan)
    placed = []
    for members in groups_in_order(program, ranges, plan):
        place_group(program, ranges, packed, members, placed)
        placed.extend(members)
    return packed
