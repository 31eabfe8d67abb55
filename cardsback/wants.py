"""WANTS: houses that want to be gone to, and the days on which they can be."""

from cardsback.days import is_name, is_number, is_rising


def is_days(thing):
    """Whether any thing is a rising tuple of days."""
    if not isinstance(thing, tuple):
        return False
    return all(is_number(day) and day >= 0 for day in thing) and is_rising(thing)


def is_want(thing):
    """Whether any thing is a pair of a NAME and its days."""
    return isinstance(thing, tuple) and len(thing) == 2 and is_name(thing[0]) and is_days(thing[1])


def is_wants(thing):
    """Whether any thing is WANTS."""
    if not isinstance(thing, tuple) or not all(is_want(part) for part in thing):
        return False
    return is_rising([name for name, days in thing])


def all_days(wants):
    """All days of WANTS, each once, rising."""
    return tuple(sorted({day for name, days in wants for day in days}))


def days_together(wants, names):
    """The DAYS of some names, rising."""
    return all_days([want for want in wants if want[0] in names])


def days_of_name(wants, name):
    """The days of one of the names."""
    return [days for other, days in wants if other == name][0]


def with_want(wants, name, days):
    """WANTS with this want, in the place of one of its name, if there is one."""
    return tuple(sorted(without_want(wants, name) + ((name, days),)))


def with_day(wants, name, day):
    """WANTS with this day among those of one of their names."""
    return with_want(wants, name, tuple(sorted(set(days_of_name(wants, name) + (day,)))))


def without_want(wants, name):
    """WANTS without the want of this name."""
    return tuple(want for want in wants if want[0] != name)
