"""The refusals: an error class for each, which bears the number that is answered."""


class Refusal(Exception):
    def __init__(self, number):
        Exception.__init__(self)
        self.number = number


class TooLong(Refusal):
    def __init__(self):
        Refusal.__init__(self, -1)


class WrongForm(Refusal):
    def __init__(self, position):
        Refusal.__init__(self, -2)
        self.position = position


class WrongName(Refusal):
    def __init__(self, statement_number):
        Refusal.__init__(self, -3)
        self.statement_number = statement_number


class NoProgram(Refusal):
    def __init__(self):
        Refusal.__init__(self, -4)


class WrongPlan(Refusal):
    def __init__(self):
        Refusal.__init__(self, -5)


class BeyondLimit(Refusal):
    def __init__(self):
        Refusal.__init__(self, -6)


class ClashingPlan(Refusal):
    def __init__(self):
        Refusal.__init__(self, -7)


class AbsentInput(Refusal):
    def __init__(self):
        Refusal.__init__(self, -8)


class WrongData(Refusal):
    def __init__(self):
        Refusal.__init__(self, -9)


class MissingData(Refusal):
    def __init__(self):
        Refusal.__init__(self, -10)
