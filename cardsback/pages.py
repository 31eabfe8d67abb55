"""PAGES, and the order in which they STAND."""

from cardsback.days import is_day, is_home, is_name, is_number_within

KINDS = ("house", "part", "join", "home", "mourn", "ahead", "card", "visit")

# What stands behind the kind and the day of a PAGE.
FORMS = {
    "house": ("name", "home"),
    "part": ("name", "name", "home"),
    "join": ("name", "name"),
    "home": ("name", "home"),
    "mourn": ("name", "many"),
    "ahead": ("name", "name"),
    "card": ("name", "name"),
    "visit": ("name", "name"),
}

LONGEST_MOURNING = 60


def fits(form, thing):
    """Whether a thing is of the form that stands at its place."""
    if form == "name":
        return is_name(thing)
    if form == "home":
        return is_home(thing)
    return is_number_within(thing, 1, LONGEST_MOURNING)


def has_form(thing):
    """Whether a thing is a PAGE, but that its NAMES may be alike."""
    if not isinstance(thing, tuple) or len(thing) < 2 or thing[0] not in KINDS or not is_day(thing[1]):
        return False
    forms = FORMS[thing[0]]
    rest = thing[2:]
    return len(rest) == len(forms) and all(fits(form, part) for form, part in zip(forms, rest))


def is_page(thing):
    """Whether any thing is a PAGE."""
    if not has_form(thing):
        return False
    names = names_of(thing)
    return len(names) == 1 or names[0] != names[1]


def page_day(page):
    """The day of a PAGE."""
    return page[1]


def page_kind(page):
    """The kind of a PAGE."""
    return page[0]


def names_of(page):
    """The one or two NAMES of houses in a PAGE, a ahead of b."""
    return tuple(part for form, part in zip(FORMS[page_kind(page)], page[2:]) if form == "name")


def page_place(page):
    """By this PAGES STAND: what is less stands ahead."""
    return page_day(page), KINDS.index(page_kind(page)), page


def stands_ahead(one, other):
    """Whether the first PAGE STANDS ahead of the second."""
    return page_place(one) < page_place(other)


def in_order(some):
    """The BOOK of just these PAGES, each once, as they STAND."""
    unlike = {page: True for page in some}
    return tuple(sorted(unlike, key=page_place))
