"""The fewest SAYINGS that must go so that no RING is left, with CASES that fewer don't do."""

from cardsback.errors import TooMany
from cardsback.ranking import any_ring

MOST_GONE = 3


def without(some, gone):
    """The SAYINGS that are left where these are gone."""
    return tuple(saying for saying in some if saying not in gone)


def rings_apart(names, some):
    """RINGS apart, one behind the other as they are found: not the most such ones, always."""
    rings = []
    ring = any_ring(names, some)
    while ring is not None:
        rings.append(ring)
        some = without(some, ring)
        ring = any_ring(names, some)
    return tuple(rings)


def seek_letting(names, left, more):
    """("gone", SAYINGS, so many at most, by which no RING is left) or ("cases", a node)."""
    rings = rings_apart(names, left)
    if not rings:
        return "gone", ()
    if len(rings) > more:
        return "cases", ("rings", rings)
    parts = []
    for saying in rings[0]:
        word, told = seek_letting(names, without(left, (saying,)), more - 1)
        if word == "gone":
            return word, (saying,) + told
        parts.append(told)
    return "cases", ("one", rings[0], tuple(parts))


def let_go(names, some):
    """A pair (the fewest SAYINGS that must go, CASES for one less, or None where none must); or TooMany."""
    cases = None
    for number in range(MOST_GONE + 1):
        word, told = seek_letting(names, some, number)
        if word == "gone":
            return tuple(sorted(told)), cases
        cases = told
    raise TooMany("gone")
