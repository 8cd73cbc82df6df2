"""A program: its statements, each of which gives the array of the same number."""


class Statement:
    # way is "map" or "turn", and "" for an input, which has no operands either.
    def __init__(self, word, name, length, way, operand_names):
        self.word = word
        self.name = name
        self.length = length
        self.way = way
        self.operand_names = operand_names


class Program:
    # operands holds for each array the numbers of its operands, in their order.
    def __init__(self, statements, operands):
        self.statements = statements
        self.operands = operands


def input_numbers(program):
    return [number for number, statement in enumerate(program.statements) if statement.word == "in"]


def plain_statement(statement):
    words = [statement.word, statement.name, str(statement.length)]
    if statement.word != "in":
        words.extend(["=", statement.way])
        words.extend(statement.operand_names)
    return " ".join(words) + ";\n"


def plain_text(program):
    return "".join([plain_statement(statement) for statement in program.statements])
