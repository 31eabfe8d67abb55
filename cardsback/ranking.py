"""ORDERS, WAYS and RINGS of a LIST by SAYINGS."""


def ways_from(some, a):
    """A shortest WAY from a to each NAME that one leads to, kept by these NAMES.

    A shortest WAY comes to no NAME twice, so none begins two of its SAYINGS.
    """
    ways = {}
    fresh = [(a, ())]
    while fresh:
        further = []
        for name, way in fresh:
            for saying in some:
                if saying[0] == name and saying[1] not in ways:
                    ways[saying[1]] = way + (saying,)
                    further.append((saying[1], way + (saying,)))
        fresh = further
    return ways


def goes_ahead(names, some, a, b):
    """A WAY from a to b, or None."""
    return ways_from(some, a).get(b)


def is_free(some, left, name):
    """Whether no SAYING has another NAME that is left ahead of this one."""
    return not any(ahead in left and behind == name for ahead, behind in some)


def any_ring(names, some):
    """A RING through one of these NAMES, or None."""
    for name in names:
        ring = goes_ahead(names, some, name, name)
        if ring is not None:
            return ring
    return None


def ranked(names, some):
    """("order", the ORDER that takes the least free NAME at each place) or ("ring", a RING)."""
    order = []
    left = list(names)
    while left:
        free = [name for name in left if is_free(some, left, name)]
        if not free:
            return "ring", any_ring(left, some)
        order.append(free[0])
        left.remove(free[0])
    return "order", tuple(order)
