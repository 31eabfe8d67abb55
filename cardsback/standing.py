"""Who stands BEHIND a day, who came by then, and which PAGES were IDLE."""

from cardsback.books import up_to
from cardsback.errors import NoHouse
from cardsback.pages import names_of, page_kind

COMING = ("house", "part")


def can_be_done(homes, known, page):
    """Whether a PAGE is not IDLE, by the HOMES of who stands and the NAMES that came."""
    names = names_of(page)
    if page_kind(page) not in COMING:
        return all(name in homes for name in names)
    # The last NAME is the new one; a NAME comes once for ever.
    return names[-1] not in known and all(name in homes for name in names[:-1])


def turn_houses(homes, known, page):
    """Do in the HOMES of who stands and the NAMES that came what a PAGE tells."""
    kind = page_kind(page)
    names = names_of(page)
    if kind in COMING:
        known.append(names[-1])
        homes[names[-1]] = page[-1]
    elif kind == "join":
        del homes[names[1]]
    elif kind == "home":
        homes[names[0]] = page[-1]


def walk_houses(book, day):
    """The HOMES of who stands by NAMES, the NAMES that came, and pairs (PAGE, whether it was done)."""
    homes = {}
    known = []
    marks = []
    for page in up_to(book, day):
        done = can_be_done(homes, known, page)
        if done:
            turn_houses(homes, known, page)
        marks.append((page, done))
    return homes, known, marks


def standing(book, day):
    """Pairs (NAME, HOME) of the houses that stand BEHIND the day, rising by NAMES."""
    homes, known, marks = walk_houses(book, day)
    return [(name, homes[name]) for name in sorted(homes)]


def came(book, day):
    """The NAMES of all houses that came by the day, rising."""
    homes, known, marks = walk_houses(book, day)
    return sorted(known)


def idle(book, day):
    """The PAGES that were IDLE by the day, as they STAND."""
    homes, known, marks = walk_houses(book, day)
    return [page for page, done in marks if not done]


def home_of(book, day, name):
    """The HOME of a house that stands BEHIND the day, or NoHouse."""
    homes, known, marks = walk_houses(book, day)
    if name not in homes:
        raise NoHouse(name)
    return homes[name]
