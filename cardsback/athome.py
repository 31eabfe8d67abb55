"""On which days houses are AT HOME."""

from cardsback.days import weekday
from cardsback.mourning import is_mourning, known_mourning
from cardsback.standing import home_of


def days_within(book, day, name, first, end):
    """The days from first to end on which a house is AT HOME, as is known BEHIND the day, or NoHouse."""
    home = home_of(book, day, name)
    mourning = known_mourning(book, day)
    at_weekdays = [later for later in range(first, end + 1) if weekday(later) in home]
    return [later for later in at_weekdays if not is_mourning(mourning, name, later)]


def at_home(book, day, name):
    """Whether a house is AT HOME on the day, or NoHouse."""
    return days_within(book, day, name, day, day) == [day]


def home_days(book, day, name, far):
    """The days at home among the next far ones, as is known BEHIND the day, or NoHouse."""
    return days_within(book, day, name, day + 1, day + far)
