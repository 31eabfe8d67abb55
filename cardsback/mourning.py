"""On which days houses MOURN."""

from cardsback.pages import page_kind
from cardsback.standing import walk_houses


def add_mourning(mourning, page):
    """Put the days of a "mourn" PAGE to the days of mourning that are kept by NAMES."""
    kind, day, name, many = page
    days = mourning.setdefault(name, {})
    for later in range(day, day + many):
        days[later] = True


def is_mourning(mourning, name, day):
    """Whether the day is among the days of mourning that are kept for the NAME."""
    return day in mourning.get(name, {})


def known_mourning(book, day):
    """By NAMES of who stands BEHIND the day, the days of mourning as they are known then."""
    homes, known, marks = walk_houses(book, day)
    mourning = {}
    for page, done in marks:
        # A NAME comes once for ever: who stands now stood since each of its PAGES that was done.
        if done and page_kind(page) == "mourn" and page[2] in homes:
            add_mourning(mourning, page)
    return mourning


def mourns(book, day, name):
    """Whether a house MOURNS on the day."""
    return is_mourning(known_mourning(book, day), name, day)


def mourning_days(book, day, name, far):
    """The days among the next far ones on which a house mourns, as is known BEHIND the day."""
    mourning = known_mourning(book, day)
    return [later for later in range(day + 1, day + far + 1) if is_mourning(mourning, name, later)]
