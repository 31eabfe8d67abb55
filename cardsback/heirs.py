"""In which house one went up, and from which ones it parted."""

from cardsback.errors import NoHouse
from cardsback.pages import names_of, page_kind
from cardsback.standing import walk_houses


def chain(book, day, name, kind):
    """A NAME that came, then those to which done PAGES of a kind lead, each from its second house to its first one."""
    homes, known, marks = walk_houses(book, day)
    if name not in known:
        raise NoHouse(name)
    # A NAME comes once and goes up once, so of each kind one PAGE at most leads on from it.
    leads = {names_of(page)[1]: names_of(page)[0] for page, done in marks if done and page_kind(page) == kind}
    names = [name]
    while names[-1] in leads:
        names.append(leads[names[-1]])
    return tuple(names)


def heir(book, day, name):
    """The house that stands and in which a house went up, perhaps itself, or NoHouse."""
    return chain(book, day, name, "join")[-1]


def parted_from(book, day, name):
    """The stock of a house: itself, the one from which it parted, and so on, or NoHouse."""
    return chain(book, day, name, "part")
