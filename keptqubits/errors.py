"""The errors of the package. Each one keeps its fields, any values, as they were passed."""


class KeptError(ValueError):
    """Any error of this package."""


class BadText(KeptError):
    """A text is wrong, first at this word or sign of this line."""

    def __init__(self, line, column):
        self.line = line
        self.column = column


class BadNumber(KeptError):
    """A value is not the number that is asked for under this word."""

    def __init__(self, what, number):
        self.what = what
        self.number = number


class BadName(KeptError):
    """A value is no name."""

    def __init__(self, name):
        self.name = name


class BadLot(KeptError):
    """A value is no lot of places of the code."""

    def __init__(self, lot):
        self.lot = lot


class Unlike(KeptError):
    """Two things differ that should agree in this."""

    def __init__(self, what):
        self.what = what


class TooMany(KeptError):
    """There are more of these than the limit."""

    def __init__(self, what, many, limit):
        self.what = what
        self.many = many
        self.limit = limit


class Anticommute(KeptError):
    """The strings with these two indexes do not commute."""

    def __init__(self, one, other):
        self.one = one
        self.other = other


class MinusOne(KeptError):
    """The product of the strings with these indexes is -1, or would be."""

    def __init__(self, indices):
        self.indices = indices


class BadGauge(KeptError):
    """The gauge string with this index is wrong."""

    def __init__(self, index):
        self.index = index


class BadHidden(KeptError):
    """The hidden pair with this index is wrong."""

    def __init__(self, index):
        self.index = index


class Outside(KeptError):
    """A string does not commute with the group."""

    def __init__(self, string):
        self.string = string


class NotOne(KeptError):
    """The inner code does not keep just one bit without gauge strings."""


class NotARound(KeptError):
    """A program is not a round of the code."""


class HasFlag(KeptError):
    """A program has a line flag."""


class HasLook(KeptError):
    """A program has a line look."""


class TakenName(KeptError):
    """A name is in use."""

    def __init__(self, name):
        self.name = name


class NoName(KeptError):
    """Nothing of the kind that is asked for has this name."""

    def __init__(self, name):
        self.name = name


class NotKept(KeptError):
    """A promise is not kept, as the witness shows."""

    def __init__(self, promise, witness):
        self.promise = promise
        self.witness = witness


class NothingToUndo(KeptError):
    """There is no edit to take back."""


class NothingToRedo(KeptError):
    """There is no edit to do again."""
