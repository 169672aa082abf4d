"""The refusals of the program."""


class BiteError(ValueError):
    pass


class NoBar(BiteError):
    pass


class NoBite(BiteError):
    pass


class NoTable(BiteError):
    pass


class NoNote(BiteError):
    pass
