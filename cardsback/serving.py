"""ROUNDS by which WANTS are served, or CROWDS for which no ROUND is."""


def find_room(choices, most, rooms, name, met):
    """Whether a name finds room on one of its days, others moving on where they must.

    Kept in met are the days that were looked at. Where no room is found all of these are full, and all who are on
    them have no other days: that makes the CROWD.
    """
    for day in choices[name]:
        if day in met:
            continue
        met[day] = True
        there = rooms.get(day, [])
        if len(there) < most:
            rooms[day] = there + [name]
            return True
        for other in there:
            if find_room(choices, most, rooms, other, met):
                rooms[day] = [kept for kept in there if kept != other] + [name]
                return True
    return False


def any_round(wants, most):
    """("round", a ROUND) or ("crowd", a CROWD)."""
    choices = dict(wants)
    rooms = {}
    for name in choices:
        met = {}
        if not find_room(choices, most, rooms, name, met):
            return "crowd", tuple(sorted([name] + [other for day in met for other in rooms[day]]))
    return "round", tuple((day, tuple(sorted(rooms[day]))) for day in sorted(rooms))


def within(wants, days):
    """WANTS with just these of their days."""
    return tuple((name, tuple(day for day in own if day in days)) for name, own in wants)


def served(wants, most, days):
    """A ROUND each of whose days is one of these, or None."""
    word, told = any_round(within(wants, days), most)
    return told if word == "round" else None
