"""A text's tokens: its words, numbers and signs, each with the position of its first byte."""

BLANKS = (32, 9, 10, 13)
LINE_FEED = 10
REMARK = 35
ZERO = 48
SMALL_A = 97
SIGNS = {59: ";", 61: "="}
DIGITS = "0123456789"
LETTERS = "abcdefghijklmnopqrstuvwxyz"


class Token:
    # The kinds are "word", "number" and "sign"; "none" stands where no token
    # begins, and "end" at the text's end, so that both can be told by a position.
    def __init__(self, kind, value, position, end):
        self.kind = kind
        self.value = value
        self.position = position
        self.end = end


def is_digit(byte):
    return ZERO <= byte < ZERO + len(DIGITS)


def is_letter(byte):
    return SMALL_A <= byte < SMALL_A + len(LETTERS)


def remark_end(text, position):
    while position < len(text) and text[position] != LINE_FEED:
        position += 1
    return position


def skip_blanks(text, position):
    while position < len(text):
        if text[position] in BLANKS:
            position += 1
        elif text[position] == REMARK:
            position = remark_end(text, position)
        else:
            return position
    return position


def word_end(text, position):
    while position < len(text) and (is_letter(text[position]) or is_digit(text[position])):
        position += 1
    return position


def number_end(text, position):
    while position < len(text) and is_digit(text[position]):
        position += 1
    return position


def word_text(word_bytes):
    signs = []
    for byte in word_bytes:
        if is_digit(byte):
            signs.append(DIGITS[byte - ZERO])
        else:
            signs.append(LETTERS[byte - SMALL_A])
    return "".join(signs)


def number_value(number_bytes):
    value = 0
    for byte in number_bytes:
        value = value * 10 + byte - ZERO
    return value


def read_token(text, position):
    byte = text[position]
    if byte in SIGNS:
        return Token("sign", SIGNS[byte], position, position + 1)
    if is_letter(byte):
        end = word_end(text, position)
        return Token("word", word_text(text[position:end]), position, end)
    if is_digit(byte):
        end = number_end(text, position)
        if byte != ZERO or end == position + 1:
            return Token("number", number_value(text[position:end]), position, end)
    return Token("none", "", position, position)


def read_tokens(text):
    tokens = []
    position = skip_blanks(text, 0)
    while position < len(text):
        token = read_token(text, position)
        tokens.append(token)
        if token.kind == "none":
            # Where no token begins the text is refused, whatever stands behind.
            return tokens
        position = skip_blanks(text, token.end)
    tokens.append(Token("end", "", len(text), len(text)))
    return tokens
