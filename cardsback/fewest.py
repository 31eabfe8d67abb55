"""The fewest goings of a ROUND, with CASES that fewer don't do."""

from cardsback.errors import NoCrowd, TooMany
from cardsback.serving import any_round, served, within
from cardsback.wants import all_days, days_together

MOST_GOINGS = 4


def short_names(wants, most, taken, more):
    """Names for which the TAKEN days and so many more goings, on whichever days, have no room, or None."""
    # A going whose day is not known yet is put as a day that everybody has; no true day is below 0.
    loose = tuple(range(-more, 0))
    word, told = any_round([(name, loose + days) for name, days in within(wants, taken)], most)
    return told if word == "crowd" else None


def apart_names(wants, taken):
    """Names that have no TAKEN day, no two of them a day in common: not the most such ones, always."""
    some = []
    met = list(taken)
    for name, days in wants:
        if not any(day in met for day in days):
            some.append(name)
            met.extend(days)
    return tuple(sorted(some))


def seek(wants, most, number, taken):
    """("round", a ROUND by the TAKEN days and as many more as the number leaves) or ("cases", a node)."""
    word, told = any_round(within(wants, taken), most)
    if word == "round":
        return word, told
    more = number - len(taken)
    apart = apart_names(wants, taken)
    if len(apart) > more:
        return "cases", ("apart", apart)
    short = short_names(wants, most, taken, more)
    if short is not None:
        return "cases", ("short", short)
    return seek_further(wants, most, number, taken, told)


def seek_further(wants, most, number, taken, crowd):
    """What is found where each further day of a crowd on the TAKEN days is TAKEN in its turn."""
    parts = []
    for day in days_together(wants, crowd):
        if day not in taken:
            word, told = seek(wants, most, number, taken + (day,))
            if word == "round":
                return word, told
            parts.append(told)
    return "cases", ("more", crowd, tuple(parts))


def fewest(wants, most):
    """A ROUND of the fewest goings, and CASES for one going fewer; or NoCrowd, TooMany."""
    word, told = any_round(wants, most)
    if word == "crowd":
        raise NoCrowd(told)
    # Whoever has fewer days goes first: so there are fewer cases.
    rows = sorted(wants, key=lambda want: len(want[1]))
    cases = None
    for number in range(MOST_GOINGS + 1):
        word, told = seek(rows, most, number, ())
        if word == "round":
            return told, cases
        cases = told
    raise TooMany("goings")


def fewest_goings(wants, most):
    """How many goings the fewest are, None where no ROUND is; or TooMany."""
    if any_round(wants, most)[0] == "crowd":
        return None
    return len(fewest(wants, most)[0])


def sets_of(days, many):
    """All rising tuples of so many of these rising days, rising."""
    if many == 0:
        return [()]
    return [(days[k],) + rest for k in range(len(days)) for rest in sets_of(days[k + 1:], many - 1)]


def day_sets(wants, most, many):
    """The rising tuples of so many days of the WANTS by which these can be served, rising."""
    return [days for days in sets_of(all_days(wants), many) if served(wants, most, days) is not None]
