"""A checker of CROWDS."""

from cardsback.days import is_name
from cardsback.errors import NoPaper
from cardsback.ringchecker import first_place
from cardsback.wants import days_together


def is_names(thing):
    """Whether any thing is a tuple of NAMES."""
    return isinstance(thing, tuple) and all(is_name(part) for part in thing)


def names_path(wants, names):
    """The path of the first name that is none of the WANTS', or isn't above the one ahead, or None."""
    choices = dict(wants)
    return first_place(names, lambda j: names[j] not in choices or (j > 0 and names[j] <= names[j - 1]))


def lets_crowd(wants, most, thing):
    """True of a CROWD of the WANTS, or NoPaper."""
    if not is_names(thing):
        raise NoPaper("shape", ())
    path = names_path(wants, thing)
    if path is not None:
        raise NoPaper("name", path)
    if len(days_together(wants, thing)) * most >= len(thing):
        raise NoPaper("few", ())
    return True
