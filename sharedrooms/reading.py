"""From a text to a program, or to the refusal that says what is wrong with the text."""

from sharedrooms.program import Program, Statement
from sharedrooms.refusals import TooLong, WrongForm, WrongName
from sharedrooms.tokens import read_tokens

TEXT_LIMIT = 4096
STATEMENT_LIMIT = 24
LENGTH_LIMIT = 64
NAME_LIMIT = 16
OPERAND_LIMIT = 4
KEPT_WORDS = ("in", "let", "out", "map", "turn")
WAYS = ("map", "turn")


class Reader:
    # The last token is never taken, so there is always one to look at.
    def __init__(self, tokens):
        self.tokens = tokens
        self.place = 0

    def sees(self, kind, choices):
        token = self.tokens[self.place]
        return token.kind == kind and token.value in choices

    def at_end(self):
        return self.tokens[self.place].kind == "end"

    def take_if(self, can_stand):
        token = self.tokens[self.place]
        if not can_stand:
            raise WrongForm(token.position)
        self.place += 1
        return token.value

    def take_word(self, choices):
        return self.take_if(self.sees("word", choices))

    def take_sign(self, sign):
        return self.take_if(self.sees("sign", (sign,)))

    def take_name(self):
        token = self.tokens[self.place]
        is_name = token.kind == "word" and token.value not in KEPT_WORDS and len(token.value) <= NAME_LIMIT
        return self.take_if(is_name)

    def take_length(self):
        token = self.tokens[self.place]
        return self.take_if(token.kind == "number" and token.value <= LENGTH_LIMIT)


def read_operand_names(reader):
    names = [reader.take_name()]
    while len(names) < OPERAND_LIMIT and not reader.sees("sign", (";",)):
        names.append(reader.take_name())
    return names


def read_statement(reader, first_words):
    word = reader.take_word(first_words)
    name = reader.take_name()
    length = reader.take_length()
    way = ""
    operand_names = []
    if word != "in":
        reader.take_sign("=")
        way = reader.take_word(WAYS)
        operand_names = read_operand_names(reader)
    reader.take_sign(";")
    return Statement(word, name, length, way, operand_names)


def possible_first_words(statements):
    if len(statements) == STATEMENT_LIMIT:
        return ()
    if len(statements) > 0 and statements[-1].word != "in":
        return ("let", "out")
    return ("in", "let", "out")


def read_statements(text):
    reader = Reader(read_tokens(text))
    statements = []
    while not reader.at_end():
        statements.append(read_statement(reader, possible_first_words(statements)))
    return statements


def find_operands(statements):
    numbers = {}
    operands = []
    for number, statement in enumerate(statements):
        unknown = [name for name in statement.operand_names if name not in numbers]
        if statement.name in numbers or len(unknown) > 0:
            raise WrongName(number)
        operands.append([numbers[name] for name in statement.operand_names])
        numbers[statement.name] = number
    return operands


def read_program(text):
    if len(text) > TEXT_LIMIT:
        raise TooLong()
    statements = read_statements(text)
    return Program(statements, find_operands(statements))
