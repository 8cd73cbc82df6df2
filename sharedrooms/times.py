"""When arrays are live, which may take over which, and what is needed at least."""


def first_times(program):
    times = []
    time = 0
    for statement in program.statements:
        if statement.word != "in":
            time += 1
        times.append(time)
    return times


def end_time(program):
    return len([statement for statement in program.statements if statement.word != "in"]) + 1


def last_times(program):
    first = first_times(program)
    last = list(first)
    for number, operands in enumerate(program.operands):
        for operand in operands:
            # Statements come in order of their times, so the last one stays.
            last[operand] = first[number]
    for number, statement in enumerate(program.statements):
        if statement.word == "out":
            last[number] = end_time(program)
    return last


# For each array its first and its last time.
def live_ranges(program):
    return list(zip(first_times(program), last_times(program)))


def may_take_over(program, ranges, taker, taken):
    if program.statements[taker].way != "map" or taken not in program.operands[taker]:
        return False
    same_length = program.statements[taker].length == program.statements[taken].length
    return same_length and ranges[taken][1] == ranges[taker][0]


def live_length(program, ranges, time):
    total = 0
    for number, statement in enumerate(program.statements):
        if ranges[number][0] <= time <= ranges[number][1]:
            total += statement.length
    return total


def length_taken_over(program, ranges, time):
    longest = 0
    for taker, operands in enumerate(program.operands):
        for taken in operands:
            if ranges[taker][0] == time and may_take_over(program, ranges, taker, taken):
                longest = max(longest, program.statements[taken].length)
    return longest


def needed_at_least(program):
    ranges = live_ranges(program)
    most = 0
    for time in range(end_time(program) + 1):
        needed = live_length(program, ranges, time) - length_taken_over(program, ranges, time)
        most = max(most, needed)
    return most
