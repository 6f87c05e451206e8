"""The refusals, one class for each."""


class PartError(ValueError):
    pass


class NoBook(PartError):
    pass


class NoText(PartError):
    pass


class TooMany(PartError):
    pass


class NoStand(PartError):
    pass


class NoTable(PartError):
    def __init__(self, line):
        PartError.__init__(self, f"line {line} is no line of a table")
        self.line = line


class NoRow(PartError):
    pass


class NoWord(PartError):
    pass


class NoNumber(PartError):
    pass
