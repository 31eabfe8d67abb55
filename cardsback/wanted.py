"""WANTED: where a house has to go in the next days, how, and on which days it can."""

from cardsback.errors import NoHouse
from cardsback.lasts import last_of
from cardsback.walking import is_rude, walked


def open_dues(walk, terms, name):
    """By NAMES of owed houses, the DUES of a house to them that aren't RUDE."""
    owed = {}
    for due in walk.dues:
        if due[0] == name and not is_rude(terms, due):
            owed.setdefault(due[1], []).append(due)
    return owed


def can_go(walk, name, house, sort, day):
    """Whether a house can go to another one on a day so that DUES of this sort are answered."""
    if walk.mourns_on(name, day):
        return False
    return sort == "card" or walk.at_home_on(house, day)


def wanted_by(walk, terms, day, name, far):
    """WANTED of a house that stands, as is known by the walk to the day."""
    rows = []
    owed = open_dues(walk, terms, name)
    for house in sorted(owed):
        least = min([last_of(walk, terms, day, due) for due in owed[house]])
        if least <= day + far:
            sort = "visit" if any(due[2] == "visit" for due in owed[house]) else "card"
            days = [later for later in range(day + 1, least + 1) if can_go(walk, name, house, sort, later)]
            rows.append((house, sort, tuple(days)))
    return tuple(rows)


def wanted(book, terms, day, name, far):
    """WANTED of a house BEHIND the day for the next far days, or NoHouse."""
    walk = walked(book, terms, day)
    if name not in walk.homes:
        raise NoHouse(name)
    return wanted_by(walk, terms, day, name, far)
