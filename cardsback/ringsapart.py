"""A checker of RINGS apart."""

from cardsback.errors import NoPaper
from cardsback.ringchecker import is_ring


def first_common(rings):
    """The number of the first RING that has a SAYING of one ahead of it, or None."""
    met = []
    for k, ring in enumerate(rings):
        if any(saying in met for saying in ring):
            return k
        met.extend(ring)
    return None


def lets_apart(names, some, thing):
    """How many RINGS apart a thing has, or NoPaper."""
    if not isinstance(thing, tuple):
        raise NoPaper("shape", ())
    for k, ring in enumerate(thing):
        if not is_ring(some, ring):
            raise NoPaper("ring", (k,))
    common = first_common(thing)
    if common is not None:
        raise NoPaper("apart", (common,))
    return len(thing)
