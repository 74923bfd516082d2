"""All refusals, under one base."""


class BellError(ValueError):
    """Any refusal."""


class NoText(BellError):
    """A program's text can't go on at the line of this number."""

    def __init__(self, place):
        self.place = place


class NoBell(BellError):
    """This number is no word of the program's bells."""

    def __init__(self, word):
        self.word = word


class NoNest(BellError):
    """This bell may not enter there."""

    def __init__(self, bell):
        self.bell = bell


class TooMany(BellError):
    """There are more states than this number."""

    def __init__(self, most):
        self.most = most


class NoLine(BellError):
    """The desk knows no such line."""

    def __init__(self, line):
        self.line = line
