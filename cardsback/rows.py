"""WANTS whose days are IN A ROW: as many goings as names apart."""

from cardsback.errors import TooMany


def is_row(days):
    """Whether there are days, one and each one behind it up to another one."""
    return len(days) > 0 and days[-1] - days[0] + 1 == len(days)


def in_a_row(wants):
    """Whether the days of each want are IN A ROW."""
    return all(is_row(days) for name, days in wants)


def last_day(want):
    """The last day of a want that has days."""
    return want[1][-1]


def row_round(wants):
    """A pair (ROUND of the fewest goings, as many names of which no two have a day in common), or TooMany."""
    if not in_a_row(wants):
        raise TooMany("gaps")
    goings = []
    apart = []
    for name, days in sorted(wants, key=last_day):
        # The last going is on the last day of a want that ends no later: who has begun by then has that day.
        if goings and days[0] <= goings[-1][0]:
            goings[-1][1].append(name)
        else:
            goings.append((days[-1], [name]))
            apart.append(name)
    return tuple((day, tuple(sorted(names))) for day, names in goings), tuple(sorted(apart))
