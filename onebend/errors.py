"""The refusals: each is made with one text, which str tells."""


class BendError(ValueError):
    """Any refusal."""


class NoNumbers(BendError):
    """What was handed in is no row of numbers, or no row of fractions."""


class NoBounds(BendError):
    """What was handed in is no list of bounds."""


class NoFit(BendError):
    """Two things that were handed in don't belong together."""


class NoMeasure(BendError):
    """What was handed in names no measure."""


class NoNumber(BendError):
    """There is nothing with this number, or no number to take back."""


class NoPlace(BendError):
    """What was handed in names no places of the row."""


class NoPrices(BendError):
    """What was handed in is no list of prices."""


class TooMany(BendError):
    """The row has, or would have, more numbers than are allowed here."""


class NoText(BendError):
    """What was handed in is the writing of no row."""


class NoName(BendError):
    """No row stands by this name."""


class NoRow(BendError):
    """What was said is no row of words that the desk knows."""
