"""Refusals, each straight under the one base.

None makes a message of its fields: these may be any things, and a message
would have to look at them.
"""


class CardsError(ValueError):
    """Any refusal."""


class NoPaper(CardsError):
    """A thing is not the paper that it was looked at as."""

    def __init__(self, word, path):
        self.word = word
        self.path = path


class NoHouse(CardsError):
    """No house of this NAME stands, or none ever came."""

    def __init__(self, name):
        self.name = name


class NoPage(CardsError):
    """A PAGE is not in the BOOK."""

    def __init__(self, page):
        self.page = page


class NoCrowd(CardsError):
    """No ROUND is, for these names crowd the days that they have."""

    def __init__(self, names):
        self.names = names


class NoOrder(CardsError):
    """No ORDER is, for this RING is."""

    def __init__(self, ring):
        self.ring = ring


class NoDue(CardsError):
    """A DUE does not stand, or is RUDE already."""

    def __init__(self, due):
        self.due = due


class TooMany(CardsError):
    """There are more than a bound lets by; the word tells of what."""

    def __init__(self, word):
        self.word = word


class NoBack(CardsError):
    """No deed is left that could be taken back."""


class NoText(CardsError):
    """A text writes nothing, from this word of this row on."""

    def __init__(self, row, word):
        self.row = row
        self.word = word


class NoRow(CardsError):
    """A text is no row of a desk."""

    def __init__(self, row):
        self.row = row
