"""The ranks of a BOOK's houses BEHIND a day."""

from cardsback.errors import NoHouse, NoOrder
from cardsback.ranking import ranked
from cardsback.sayings import sayings
from cardsback.standing import standing


def standing_names(book, day):
    """The LIST of the houses that stand BEHIND the day."""
    return tuple(name for name, home in standing(book, day))


def ranks(book, day):
    """("order", ORDER) or ("ring", RING) of the houses that stand BEHIND the day."""
    return ranked(standing_names(book, day), sayings(book, day))


def first_of(book, day, names):
    """The one of these NAMES that comes first in the ORDER, or NoHouse, NoOrder."""
    there = standing_names(book, day)
    for name in names:
        if name not in there:
            raise NoHouse(name)
    word, told = ranks(book, day)
    if word == "ring":
        raise NoOrder(told)
    return [name for name in told if name in names][0]
