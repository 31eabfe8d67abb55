"""A checker of CASES: no ROUND has so many goings, or fewer."""

from cardsback.crowds import is_names, names_path
from cardsback.errors import NoPaper
from cardsback.wants import days_of_name, days_together

# How many things a node of each word has.
NODES = {"apart": 2, "short": 2, "more": 3}


def has_shape(node):
    """Whether any thing is a tuple of one of the three forms."""
    # The first thing may be any, also one that can be no key.
    if not isinstance(node, tuple) or not node or node[0] not in list(NODES):
        return False
    if len(node) != NODES[node[0]] or not is_names(node[1]):
        return False
    return len(node) == 2 or isinstance(node[2], tuple)


def taken_among(wants, names, taken):
    """How many TAKEN days are among the DAYS of some names."""
    return len([day for day in days_together(wants, names) if day in taken])


def fresh_days(wants, names, taken):
    """The DAYS of some names that aren't TAKEN, rising."""
    return [day for day in days_together(wants, names) if day not in taken]


def apart_fault(wants, number, names, taken):
    """The word by which names are not apart, or too few, or None."""
    if taken_among(wants, names, taken) > 0:
        return "taken"
    # Where no two have a day in common, each day is counted once.
    if sum(len(days_of_name(wants, name)) for name in names) > len(days_together(wants, names)):
        return "common"
    if len(names) <= number - len(taken):
        return "few"
    return None


def short_fault(wants, most, number, names, taken):
    """The word by which names have room, or None."""
    goings = taken_among(wants, names, taken) + number - len(taken)
    return "room" if goings * most >= len(names) else None


def more_fault(wants, most, number, node, taken):
    """The word by which a node of further days is amiss, its parts not looked at, or None."""
    word, names, parts = node
    if taken_among(wants, names, taken) * most >= len(names):
        return "room"
    if len(taken) >= number:
        return "number"
    if len(parts) != len(fresh_days(wants, names, taken)):
        return "parts"
    return None


def node_fault(wants, most, number, node, taken):
    """The word by which a node is amiss, its parts not looked at, or None."""
    if not has_shape(node):
        return "shape"
    if names_path(wants, node[1]) is not None:
        return "name"
    if node[0] == "apart":
        return apart_fault(wants, number, node[1], taken)
    if node[0] == "short":
        return short_fault(wants, most, number, node[1], taken)
    return more_fault(wants, most, number, node, taken)


def look_at(wants, most, number, node, taken, path):
    """Refuse a node, and then all that is in it, where it is amiss."""
    word = node_fault(wants, most, number, node, taken)
    if word is not None:
        raise NoPaper(word, path)
    if node[0] != "more":
        return
    for k, day in enumerate(fresh_days(wants, node[1], taken)):
        look_at(wants, most, number, node[2][k], taken + (day,), path + (k,))


def lets_cases(wants, most, number, thing):
    """True of CASES of the WANTS for the number, or NoPaper."""
    look_at(wants, most, number, thing, (), ())
    return True
