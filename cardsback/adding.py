"""What a SAYING more brings, who stands BETWEEN, and the places of a NAME."""

from cardsback.errors import NoOrder
from cardsback.ranking import ranked, ways_from


def would_ring(names, some, pair):
    """A RING of the SAYINGS and the pair together that has the pair, or None."""
    way = ways_from(some, pair[1]).get(pair[0])
    if way is None:
        return None
    return (pair,) + way


def between(names, some, a, b):
    """The NAMES that a WAY leads to from a, and from which one leads to b, rising."""
    ways = ways_from(some, a)
    return tuple(c for c in names if c not in (a, b) and c in ways and b in ways_from(some, c))


def places(names, some, a):
    """The pair of the least and the greatest place of a in ORDERS, or NoOrder."""
    word, told = ranked(names, some)
    if word == "ring":
        raise NoOrder(told)
    ahead = [name for name in names if a in ways_from(some, name)]
    return len(ahead), len(names) - 1 - len(ways_from(some, a))
