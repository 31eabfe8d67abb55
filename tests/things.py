"""What several tests use: any things, things with one part changed, drawn BOOKS."""

import random

from cardsback.errors import CardsError
from cardsback.pages import in_order

NAMES = ("a", "ab", "abc", "ash", "b", "birch", "elm", "fern", "z")


def nested(depth, make):
    thing = make([])
    for _ in range(depth):
        thing = make([thing])
    return thing


ANY_THINGS = (
    0, 1, 2, 6, 7, -1, 60, 61, 9999, 10000, 10 ** 199, -(10 ** 199),
    True, False, None,
    "", "a", "ash", "Ash", "a b", "0", "house", "order", "rings", "one", "~" * 4000,
    (), [], {},
    (0,), (1,), (True,), (0, 1, 2), [0], ("a",), ["a"], ("a", "ab"), ["a", "ab"], (("a", "ab"),), [("a", "ab")],
    (("a", "ab"), ("ab", "a")), {"a": 1}, {"a": "ab"}, {0: ()}, ((),), ([],), (None, None),
    nested(39, tuple), nested(39, list), tuple(range(1000)),
)


def put(thing, k, part):
    """A tuple or list of the same kind with this part in place k."""
    parts = list(thing)
    parts[k] = part
    return type(thing)(parts)


def variants(thing):
    """Things that differ from a nested tuple in one place, in every place."""
    for other in ANY_THINGS:
        yield other
    # Of long tuples one place is like another.
    if not isinstance(thing, tuple) or len(thing) > 12:
        return
    yield list(thing)
    yield dict(enumerate(thing))
    for k, part in enumerate(thing):
        yield thing[:k] + thing[k + 1:]
        yield thing[:k] + (part, part) + thing[k + 1:]
        for j in range(k):
            yield put(put(thing, k, thing[j]), j, part)
        for other in variants(part):
            yield put(thing, k, other)
    for other in ANY_THINGS:
        yield thing + (other,)


def twice_varied(rng, thing, many):
    """Some things with two places changed, drawn."""
    once = list(variants(thing))
    for _ in range(many):
        again = list(variants(rng.choice(once[len(ANY_THINGS):])))
        yield rng.choice(again)


def changed(rng, thing):
    """A thing with one place changed, drawn, however deep it lies."""
    if not isinstance(thing, tuple) or not thing:
        return rng.choice(ANY_THINGS)
    if rng.random() < 0.75:
        k = rng.randrange(len(thing))
        return put(thing, k, changed(rng, thing[k]))
    turned = (list(thing), thing[:-1], thing[1:], thing[::-1], thing[1:] + thing[:1], thing + thing[:1])
    return rng.choice(turned + (rng.choice(ANY_THINGS),))


def refusal(function, *args):
    """The error with which a call is refused, or None."""
    try:
        function(*args)
    except CardsError as error:
        return error
    return None


def outcome(function, *args):
    """What a call tells, as a text in which kinds show; or the refusal's kind and fields."""
    try:
        return repr(function(*args))
    except CardsError as error:
        return f"{type(error).__name__} {vars(error)!r}"


def draw_home(rng):
    return tuple(w for w in range(7) if rng.random() < 0.4)


def draw_page(rng, names=NAMES, days=30):
    kind = rng.choice(("house", "house", "part", "join", "home", "mourn", "ahead", "ahead", "card", "visit"))
    day = rng.randrange(days)
    a, b = rng.sample(names, 2)
    if kind in ("house", "home"):
        return (kind, day, a, draw_home(rng))
    if kind == "part":
        return (kind, day, a, b, draw_home(rng))
    if kind == "mourn":
        return (kind, day, a, rng.randint(1, 60))
    return (kind, day, a, b)


def draw_book(rng, many=40, names=NAMES, days=30):
    start = [("house", rng.randrange(5), name, draw_home(rng)) for name in names if rng.random() < 0.6]
    return in_order(start + [draw_page(rng, names, days) for _ in range(rng.randrange(many))])


def draw_sayings(rng, names, many):
    pairs = [(a, b) for a in names for b in names if a != b]
    return tuple(sorted(rng.sample(pairs, min(many, len(pairs)))))


def draw_along(rng, names, many):
    """SAYINGS along a drawn order, so that there is no RING."""
    row = rng.sample(names, len(names))
    pairs = [(row[j], row[k]) for k in range(len(row)) for j in range(k)]
    return tuple(sorted(rng.sample(pairs, min(many, len(pairs)))))


def drawn_lists(seed, rounds, most_names=6, most_sayings=14):
    """Drawn pairs of a LIST and SAYINGS of it, with RINGS and without."""
    rng = random.Random(seed)
    for _ in range(rounds):
        names = tuple(sorted(rng.sample(NAMES, rng.randint(0, most_names))))
        draw = rng.choice((draw_sayings, draw_along))
        yield names, draw(rng, names, rng.randint(0, most_sayings))


def all_rings(some):
    """All RINGS of SAYINGS, from each of their beginnings, gone through one by one."""
    rings = []

    def go(way):
        if way[-1][1] == way[0][0]:
            rings.append(way)
        for saying in some:
            if saying[0] == way[-1][1] and saying[0] not in [met[0] for met in way]:
                go(way + (saying,))

    for saying in some:
        go((saying,))
    return rings


def is_way(some, a, b, thing):
    """Whether a thing is a WAY from a to b, by point 41."""
    if not isinstance(thing, tuple) or not thing:
        return False
    firsts = [saying[0] for saying in thing]
    seconds = [saying[1] for saying in thing]
    return (all(saying in some for saying in thing) and firsts[0] == a and seconds[-1] == b
            and firsts[1:] == seconds[:-1] and len(set(firsts)) == len(firsts))
