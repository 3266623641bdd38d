"""The errors of the package, with their fields."""


class DeckError(ValueError):
    """The base of all errors of the package."""


class BadWay(DeckError):
    """A value is no way: word tells which part is wrong, node its number or None."""

    def __init__(self, word, node):
        self.word = word
        self.node = node


class BadWish(DeckError):
    """A value is no wish for the way."""


class BadInput(DeckError):
    """A value is no input of the way."""


class BadSights(DeckError):
    """A value is no tuple of sights."""


class BadCoins(DeckError):
    """A value is no tuple of coins."""


class BadNumber(DeckError):
    """A value is none of the numbers or names that are taken."""


class BadFormula(DeckError):
    """A value is no formula."""


class BadText(DeckError):
    """A text is no way: line is the number of the wrong line, from 0."""

    def __init__(self, line):
        self.line = line


class TooMany(DeckError):
    """More had to be gone through than most."""

    def __init__(self, most):
        self.most = most
