"""Small checkers: is any thing an ORDER, is any thing a RING."""

from cardsback.errors import NoPaper


def first_place(things, is_amiss):
    """The path of the first place at which things are amiss, or None."""
    for k in range(len(things)):
        if is_amiss(k):
            return (k,)
    return None


def order_fault(names, some, thing):
    """The word and the path by which a thing is no ORDER, or None."""
    if not isinstance(thing, tuple) or len(thing) != len(names):
        return "shape", ()
    path = first_place(thing, lambda k: thing[k] not in names or thing[k] in thing[:k])
    if path is not None:
        return "name", path
    path = first_place(some, lambda k: thing.index(some[k][1]) < thing.index(some[k][0]))
    if path is not None:
        return "saying", path
    return None


def ring_fault(some, thing):
    """The word and the path by which a thing is no RING of the SAYINGS, or None."""
    if not isinstance(thing, tuple) or not thing:
        return "shape", ()
    path = first_place(thing, lambda k: thing[k] not in some)
    if path is not None:
        return "saying", path
    # Ahead of thing 0 stands the last one, which is thing -1.
    path = first_place(thing, lambda k: thing[k][0] != thing[k - 1][1])
    if path is not None:
        return "link", path
    firsts = [saying[0] for saying in thing]
    path = first_place(thing, lambda k: firsts[k] in firsts[:k])
    if path is not None:
        return "twice", path
    return None


def is_ring(some, thing):
    """Whether any thing is a RING of the SAYINGS."""
    return ring_fault(some, thing) is None


def lets_order(names, some, thing):
    """True of an ORDER of the LIST by the SAYINGS, or NoPaper."""
    fault = order_fault(names, some, thing)
    if fault is not None:
        raise NoPaper(fault[0], fault[1])
    return True


def lets_ring(names, some, thing):
    """True of a RING of the SAYINGS, or NoPaper."""
    fault = ring_fault(some, thing)
    if fault is not None:
        raise NoPaper(fault[0], fault[1])
    return True
