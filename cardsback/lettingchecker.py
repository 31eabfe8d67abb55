"""A checker of CASES: whichever so many SAYINGS go, a RING is left."""

from cardsback.errors import NoPaper
from cardsback.ringchecker import is_ring
from cardsback.ringsapart import first_common


def has_shape(more, node):
    """Whether a node is a tuple of one of the two forms, with as many parts as are told."""
    if not isinstance(node, tuple) or not node:
        return False
    if node[0] == "rings":
        return len(node) == 2 and isinstance(node[1], tuple)
    if node[0] != "one" or len(node) != 3:
        return False
    if not isinstance(node[1], tuple) or not isinstance(node[2], tuple):
        return False
    return len(node[2]) == (0 if more == 0 else len(node[1]))


def rings_fault(left, more, rings):
    """The word by which RINGS of the SAYINGS that are left are amiss, or None."""
    if not all(is_ring(left, ring) for ring in rings):
        return "ring"
    if first_common(rings) is not None:
        return "apart"
    if len(rings) <= more:
        return "few"
    return None


def node_fault(left, more, node):
    """The word by which a node is amiss, its parts not looked at, or None."""
    if not has_shape(more, node):
        return "shape"
    if node[0] == "rings":
        return rings_fault(left, more, node[1])
    if not is_ring(left, node[1]):
        return "ring"
    return None


def look_at(left, more, node, path):
    """Refuse a node, and then all that is in it, where it is amiss."""
    word = node_fault(left, more, node)
    if word is not None:
        raise NoPaper(word, path)
    if node[0] == "rings":
        return
    for k, part in enumerate(node[2]):
        gone = node[1][k]
        look_at(tuple(saying for saying in left if saying != gone), more - 1, part, path + (k,))


def lets_letting(names, some, number, thing):
    """True of CASES for the number, or NoPaper."""
    look_at(some, number, thing, ())
    return True
