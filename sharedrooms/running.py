"""A run of a program in one memory, with the arrays where a plan has them."""

from sharedrooms.plans import room_of
from sharedrooms.program import input_numbers

MODULUS = 1000003
MAP_START = 7
TURN_START = 11


def is_element(number):
    return 0 <= number < MODULUS


def place_in_operand(way, length, i):
    if way == "turn":
        return length - 1 - i % length
    return i % length


# An operand's weight is its place among the operands, from 1 on.
def worked_element(program, plan, memory, number, i):
    way = program.statements[number].way
    total = TURN_START + i if way == "turn" else MAP_START
    for weight, operand in enumerate(program.operands[number], start=1):
        length = program.statements[operand].length
        if length > 0:
            total += weight * memory[plan[operand] + place_in_operand(way, length, i)]
    return total % MODULUS


# Each element is written at once: the next ones may be worked out of it, where
# the array lies over an operand of its own.
def work_array(program, plan, memory, number):
    for i in range(program.statements[number].length):
        memory[plan[number] + i] = worked_element(program, plan, memory, number, i)


def write_data(memory, offset, data):
    for i, element in enumerate(data):
        memory[offset + i] = element


def memory_after_run(program, data, plan):
    memory = [0] * room_of(program, plan)
    for number in input_numbers(program):
        write_data(memory, plan[number], data[number])
    for number, statement in enumerate(program.statements):
        if statement.word != "in":
            work_array(program, plan, memory, number)
    return memory


# For each out its length, then what lies at its places when all are worked.
def run_by_plan(program, data, plan):
    memory = memory_after_run(program, data, plan)
    results = []
    for number, statement in enumerate(program.statements):
        if statement.word == "out":
            results.append(statement.length)
            results.extend(memory[plan[number]:plan[number] + statement.length])
    return results
