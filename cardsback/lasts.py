"""Till when a DUE can be answered."""

from cardsback.errors import NoDue
from cardsback.walking import falls_left, is_rude, walked


def left(terms, due):
    """How many falls are LEFT to a DUE until it is RUDE."""
    return falls_left(terms, due)


def last_of(walk, terms, day, due):
    """The LAST of a DUE that isn't RUDE, as is known by the walk to the day."""
    more = falls_left(terms, due)
    later = day
    while more > 0:
        later += 1
        if not walk.mourns_on(due[0], later) and not walk.mourns_on(due[1], later):
            more -= 1
    return later


def last(book, terms, day, due):
    """The LAST of a DUE that stands BEHIND the day, or NoDue."""
    walk = walked(book, terms, day)
    if due not in walk.dues or is_rude(terms, due):
        raise NoDue(due)
    return last_of(walk, terms, day, due)
