"""The refusals of the hall: each stands straight under DialectError."""


class DialectError(ValueError):
    pass


class NoText(DialectError):
    pass


class NoTable(DialectError):
    pass


class NoDialect(DialectError):
    pass


class NoFamily(DialectError):
    pass


class NoMost(DialectError):
    pass


class NoAsk(DialectError):
    pass


class NoRow(DialectError):
    pass


class NoName(DialectError):
    def __init__(self, name):
        # The name may be of any kind, so the words don't try to show it.
        DialectError.__init__(self, "this is no name that is known here")
        self.name = name


class TooMany(DialectError):
    def __init__(self, most):
        DialectError.__init__(self, f"more than {most}")
        self.most = most


class Broken(DialectError):
    def __init__(self, row, place, word):
        DialectError.__init__(self, f"row {row}, place {place}: {word}")
        self.row = row
        self.place = place
        self.word = word


class NoWriting(DialectError):
    def __init__(self, row, cell):
        DialectError.__init__(self, f"no text gets past cell {cell} of row {row}")
        self.row = row
        self.cell = cell
