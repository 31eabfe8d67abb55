"""What a day more, a want fewer, and more places are worth."""

from cardsback.fewest import fewest_goings
from cardsback.wants import with_day, without_want

MOST_PLACES = 4


def day_worth(wants, most, name, days):
    """For each day how many goings are the fewest with it among the name's days, or None; or TooMany."""
    return tuple(fewest_goings(with_day(wants, name, day), most) for day in days)


def want_worth(wants, most):
    """For each want how many goings are the fewest without it, or None; or TooMany."""
    return tuple(fewest_goings(without_want(wants, name), most) for name, days in wants)


def place_worth(wants):
    """For each MOST from 1 to 4 how many goings are the fewest, or None; or TooMany."""
    return tuple(fewest_goings(wants, most) for most in range(1, MOST_PLACES + 1))
