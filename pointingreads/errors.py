"""The errors of the package; each keeps what it was made of."""


class ReadError(ValueError):
    """What all errors of the package are."""


class BadRow(ReadError):
    """A value is no row, or a row has a block that does not fit."""

    def __init__(self, place):
        self.place = place


class BadPlace(ReadError):
    """A value is no place in question."""

    def __init__(self, place):
        self.place = place


class BadMark(ReadError):
    """A value is no mark in question, or no word at all."""

    def __init__(self, mark):
        self.mark = mark


class BadSorts(ReadError):
    """A number of sorts is none, or does not go with another one."""

    def __init__(self, value):
        self.value = value


class BadReader(ReadError):
    """A value breaks a rule of readers."""

    def __init__(self, word, stand):
        self.word = word
        self.stand = stand


class BadSieve(ReadError):
    """A value breaks a rule of sieves."""

    def __init__(self, word):
        self.word = word


class NotLooker(ReadError):
    """A sieve picks more than one entry of some row."""

    def __init__(self, row):
        self.row = row


class BadChange(ReadError):
    """A value is no change of the row."""

    def __init__(self, word):
        self.word = word


class BadRule(ReadError):
    """A value is no rule, condition, order or ranking."""

    def __init__(self, word):
        self.word = word


class BadNumber(ReadError):
    """A value is no number in question."""

    def __init__(self, value):
        self.value = value


class BadPaper(ReadError):
    """A value is not what a paper has to be."""

    def __init__(self, word):
        self.word = word


class BadText(ReadError):
    """A text can't be read."""

    def __init__(self, line, column):
        self.line = line
        self.column = column


class BadName(ReadError):
    """A value is no name in question."""

    def __init__(self, name):
        self.name = name


class NotSteady(ReadError):
    """A reader is not steady."""


class NothingBack(ReadError):
    """There is nothing to take back."""


class TooGreat(ReadError):
    """Something would be greater than a limit."""

    def __init__(self, most):
        self.most = most
