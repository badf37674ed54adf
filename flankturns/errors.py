"""The errors of Flankturns, one class for each kind of failure."""


class FlankError(ValueError):
    """The base class of all errors."""


class BadLine(FlankError):
    """A value that is no line; index is that of the first cell with no colour, or None."""

    def __init__(self, index):
        super().__init__("this is no line")
        self.index = index


class BadCell(FlankError):
    """A value that is no cell, or no such cell as is asked for."""


class BadTime(FlankError):
    """A value that is no number of steps."""


class BadCells(FlankError):
    """A value that is no tuple of colours for the cells of a line."""


class NotText(FlankError):
    """A value that is not a string."""


class InvalidText(FlankError):
    """A text that names no line; place is the index of the first character that cannot stand."""

    def __init__(self, place):
        super().__init__("this text names no line")
        self.place = place


class Swings(FlankError):
    """A line that never comes to rest."""


class BadCount(FlankError):
    """A value that is no number as it is asked for."""


class TooMany(FlankError):
    """More than can be worked out; most is how many can be."""

    def __init__(self, most):
        super().__init__("there are too many")
        self.most = most


class BadFrame(FlankError):
    """A value that is no frame."""


class BadWish(FlankError):
    """A value that is no wish."""


class BadPrices(FlankError):
    """A value that is no tuple of prices."""


class BadSights(FlankError):
    """A value that is no pair of wishes."""


class BadFlag(FlankError):
    """A value that is neither True nor False."""


class BadOdds(FlankError):
    """A value that is no tuple of odds."""


class BadSeen(FlankError):
    """A value that is no tuple of colours seen in turn."""


class BadIndex(FlankError):
    """A value that is no number of what is numbered."""


class BadWeb(FlankError):
    """A value that is no web; index is that of the first item that is no line, or None."""

    def __init__(self, index):
        super().__init__("this is no web")
        self.index = index


class BadNames(FlankError):
    """A value that does not name each colour anew."""


class NothingToUndo(FlankError):
    """There is no step to take back."""


class NothingToRedo(FlankError):
    """There is no step to do again."""


class InvalidLine(FlankError):
    """Words that a desk cannot run; word is the number of the first one that cannot stand."""

    def __init__(self, word):
        super().__init__("this cannot be run")
        self.word = word


class BadKind(FlankError):
    """A ring where a row is asked for, or a row where a ring is."""


class BadPainted(FlankError):
    """A value that does not tell painted cells."""
