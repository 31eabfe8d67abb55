"""A checker of ROUNDS, and the days of a ROUND."""

from cardsback.days import is_name, is_number
from cardsback.errors import NoPaper


def is_going(thing):
    """Whether any thing is a tuple (day, tuple of NAMES)."""
    if not isinstance(thing, tuple) or len(thing) != 2:
        return False
    day, names = thing
    if not is_number(day) or day < 0 or not isinstance(names, tuple):
        return False
    return all(is_name(name) for name in names)


def is_misplaced(choices, met, names, j):
    """Whether name j of a going is none of the WANTS, isn't above the one ahead, or stands in a going ahead."""
    name = names[j]
    return name not in choices or (j > 0 and name <= names[j - 1]) or name in met


def look_at_names(choices, met, going, k):
    """Refuse going k where one of its names is amiss."""
    day, names = going
    for j in range(len(names)):
        if is_misplaced(choices, met, names, j):
            raise NoPaper("name", (k, j))
        if day not in choices[names[j]]:
            raise NoPaper("out", (k, j))


def look_at_goings(choices, most, goings):
    """Refuse goings where one of them is amiss, and tell the names that stand in them."""
    met = []
    for k in range(len(goings)):
        day, names = goings[k]
        if k > 0 and day <= goings[k - 1][0]:
            raise NoPaper("day", (k,))
        if not 1 <= len(names) <= most:
            raise NoPaper("many", (k,))
        look_at_names(choices, met, goings[k], k)
        met.extend(names)
    return met


def lets_round(wants, most, thing):
    """How many goings a ROUND of the WANTS has, or NoPaper."""
    if not isinstance(thing, tuple) or not all(is_going(part) for part in thing):
        raise NoPaper("shape", ())
    met = look_at_goings(dict(wants), most, thing)
    for w in range(len(wants)):
        if wants[w][0] not in met:
            raise NoPaper("lacks", (w,))
    return len(thing)


def days_of(goings):
    """The days of a ROUND, rising."""
    return tuple(day for day, names in goings)
