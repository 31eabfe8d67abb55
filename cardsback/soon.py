"""What is owed soon, and who is rude first if nothing more is told."""

from cardsback.errors import NoHouse
from cardsback.lasts import last_of
from cardsback.walking import due_place, is_rude, walked


def pair_place(pair):
    """By this pairs (LAST, DUE) are told: what is less is told ahead."""
    return pair[0], due_place(pair[1])


def last_pairs(walk, terms, day):
    """Pairs (LAST, DUE) of all DUES that aren't RUDE, by LAST, then as DUES are told."""
    pairs = [(last_of(walk, terms, day, due), due) for due in walk.dues if not is_rude(terms, due)]
    return sorted(pairs, key=pair_place)


def soon(book, terms, day, name, far):
    """Pairs (LAST, DUE) of what a house owes SOON, or NoHouse."""
    walk = walked(book, terms, day)
    if name not in walk.homes:
        raise NoHouse(name)
    return [pair for pair in last_pairs(walk, terms, day) if pair[1][0] == name and pair[0] <= day + far]


def first_rude(book, terms, day):
    """The pair (LAST, DUE) that is first, of all houses, or None."""
    pairs = last_pairs(walked(book, terms, day), terms, day)
    return pairs[0] if pairs else None
