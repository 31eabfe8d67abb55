"""DAYS, HOMES and NAMES."""

WEEK = 7
LAST_DAY = 9999
LONGEST_NAME = 8


def is_number(thing):
    """Whether a thing is a whole number; a truth is none."""
    return isinstance(thing, int) and not isinstance(thing, bool)


def is_number_within(thing, least, greatest):
    """Whether a thing is a NUMBER from least to greatest."""
    return is_number(thing) and least <= thing <= greatest


def is_rising(things):
    """Whether each thing of a list or tuple is above the one ahead of it."""
    return all(things[k] < things[k + 1] for k in range(len(things) - 1))


def is_day(thing):
    """Whether any thing is a DAY."""
    return is_number_within(thing, 0, LAST_DAY)


def is_home(thing):
    """Whether any thing is a HOME."""
    if not isinstance(thing, tuple):
        return False
    return all(is_number_within(part, 0, WEEK - 1) for part in thing) and is_rising(thing)


def is_name(thing):
    """Whether any thing is a NAME."""
    if not isinstance(thing, str) or not 1 <= len(thing) <= LONGEST_NAME:
        return False
    return all("a" <= sign <= "z" for sign in thing)


def weekday(day):
    """The weekday of a DAY, from 0 to 6."""
    return day % WEEK


def next_home(home, day):
    """The first day at home from this DAY on, or None of the HOME of none."""
    for later in range(day, day + WEEK):
        if weekday(later) in home:
            return later
    return None
