"""What one house owes another, how much all owe, and what became of all DUES."""

from cardsback.errors import NoHouse
from cardsback.walking import due_place, dues, walked


def owes(book, terms, day, a, b):
    """The DUES of a to b that stand BEHIND the day, or NoHouse."""
    walk = walked(book, terms, day)
    for name in (a, b):
        if name not in walk.homes:
            raise NoHouse(name)
    return sorted([due for due in walk.dues if due[:2] == (a, b)], key=due_place)


def matters(book, terms, day):
    """Triples (a, b, how many DUES a owes b), rising."""
    many = {}
    for due in dues(book, terms, day):
        many[due[:2]] = many.get(due[:2], 0) + 1
    # DUES are told by ower and owed, so these rise.
    return [(a, b, many[a, b]) for a, b in many]


def sums(book, terms, day):
    """How many DUES were made, were copied, stand, were answered, were struck, and did not stay beside another."""
    walk = walked(book, terms, day)
    told = [mark for page, mark in walk.marks]
    answered = sum(mark[1] for mark in told if mark[0] == "answer")
    return told.count(("due",)), walk.copied, len(walk.dues), answered, walk.struck, walk.spare
