"""The refusals of the program, one class for each."""


class MendError(ValueError):
    pass


class NoFraction(MendError):
    pass


class NoPoint(MendError):
    pass


class NoSide(MendError):
    pass


class TooMany(MendError):
    pass


class NotParted(MendError):
    pass


class OneSide(MendError):
    pass


class NoTable(MendError):
    pass


class NoRow(MendError):
    pass


class WrongBook(MendError):
    def __init__(self, place):
        self.place = place


class NoText(MendError):
    def __init__(self, line):
        self.line = line
