"""ROUNDS, CROWDS and CASES of WANTS looked at by the words of points 56, 57 and 59; drawn WANTS."""

import itertools
import random

from tests.things import NAMES


def rises(things):
    return list(things) == sorted(set(things))


def is_round(wants, most, thing):
    """Point 56."""
    choices = dict(wants)
    if type(thing) is not tuple or any(type(going) is not tuple or len(going) != 2 for going in thing):
        return False
    if not rises([day for day, names in thing]):
        return False
    for day, names in thing:
        if type(day) is not int or type(names) is not tuple or not 1 <= len(names) <= most or not rises(names):
            return False
        if any(name not in choices or day not in choices[name] for name in names):
            return False
    gone = [name for day, names in thing for name in names]
    return sorted(gone) == sorted(choices)


def days_together(wants, names):
    """The DAYS of some names."""
    return {day for name, days in wants if name in names for day in days}


def is_crowd(wants, most, thing):
    """Point 57."""
    if type(thing) is not tuple or not rises(thing) or any(name not in dict(wants) for name in thing):
        return False
    return len(days_together(wants, thing)) * most < len(thing)


def is_cases(wants, most, number, node, taken=frozenset()):
    """Point 59."""
    if type(node) is not tuple or not node or node[0] not in ("apart", "short", "more"):
        return False
    if len(node) != (3 if node[0] == "more" else 2) or type(node[1]) is not tuple or not rises(node[1]):
        return False
    if any(name not in dict(wants) for name in node[1]):
        return False
    some, together = node[1], days_together(wants, node[1])
    if node[0] == "apart":
        alone = sum(len(days_together(wants, (name,))) for name in some) == len(together)
        return not together & taken and alone and len(some) > number - len(taken)
    if node[0] == "short":
        return (len(together & taken) + number - len(taken)) * most < len(some)
    if len(together & taken) * most >= len(some) or len(taken) >= number or type(node[2]) is not tuple:
        return False
    fresh = sorted(together - taken)
    return len(node[2]) == len(fresh) and all(
        is_cases(wants, most, number, part, taken | {day}) for day, part in zip(fresh, node[2]))


def can_serve(wants, most, days):
    """Whether some row of days, one for each name, all of them gone through, makes a ROUND."""
    rows = [[day for day in own if day in days] for name, own in wants]
    return any(all(row.count(day) <= most for day in row) for row in itertools.product(*rows))


def least_goings(wants, most):
    """How many goings the fewest are, by all sets of days gone through, or None."""
    days = sorted(days_together(wants, [name for name, own in wants]))
    for many in range(len(days) + 1):
        if any(can_serve(wants, most, some) for some in itertools.combinations(days, many)):
            return many
    return None


def nodes_of(cases):
    """All nodes of CASES."""
    parts = cases[2] if len(cases) == 3 else ()
    return [cases] + [node for part in parts for node in nodes_of(part)]


def draw_wants(rng, names=5, days=8, share=None):
    """WANTS of at most so many names and unlike days."""
    some = sorted(rng.sample(NAMES, rng.randint(0, names)))
    there = sorted(rng.sample(range(3 * days), rng.randint(1, days)))
    share = rng.choice((0.15, 0.3, 0.5, 0.8)) if share is None else share
    return tuple((name, tuple(day for day in there if rng.random() < share)) for name in some)


def drawn_wants(seed, rounds, **how):
    """Drawn pairs of WANTS and MOST."""
    rng = random.Random(seed)
    for _ in range(rounds):
        yield draw_wants(rng, **how), rng.randint(1, 4)
