"""SAYINGS: pairs of NAMES of which the first goes ahead of the second."""

from cardsback.days import is_rising
from cardsback.pages import names_of, page_kind
from cardsback.standing import walk_houses


def sayings(book, day):
    """The SAYINGS of a BOOK BEHIND the day."""
    homes, known, marks = walk_houses(book, day)
    pairs = [names_of(page) for page, done in marks if done and page_kind(page) == "ahead"]
    return tuple(sorted({(a, b) for a, b in pairs if a in homes and b in homes}))


def is_saying(names, thing):
    """Whether any thing is a SAYING of two NAMES of the LIST."""
    if not isinstance(thing, tuple) or len(thing) != 2:
        return False
    return thing[0] in names and thing[1] in names and thing[0] != thing[1]


def is_sayings(names, thing):
    """Whether any thing is SAYINGS of the LIST."""
    if not isinstance(thing, tuple):
        return False
    return all(is_saying(names, part) for part in thing) and is_rising(thing)
