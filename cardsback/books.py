"""BOOKS: tuples of unlike PAGES that STAND in their order."""

from cardsback.errors import NoPage
from cardsback.pages import in_order, is_page, page_day, stands_ahead


def is_book(thing):
    """Whether any thing is a BOOK."""
    if not isinstance(thing, tuple) or not all(is_page(part) for part in thing):
        return False
    return all(stands_ahead(thing[k], thing[k + 1]) for k in range(len(thing) - 1))


def with_page(book, page):
    """The BOOK with this PAGE in it."""
    return in_order(book + (page,))


def without_page(book, page):
    """The BOOK without a PAGE of it, or NoPage."""
    if page not in book:
        raise NoPage(page)
    return tuple(kept for kept in book if kept != page)


def both_books(one, other):
    """The BOOK of all PAGES that either BOOK has."""
    return in_order(one + other)


def up_to(book, day):
    """The BOOK of the PAGES of days up to this one."""
    return tuple(page for page in book if page_day(page) <= day)


def lacking(one, other):
    """The BOOK of the PAGES of the first BOOK that the second hasn't."""
    there = {page: True for page in other}
    return tuple(page for page in one if page not in there)


def apart(one, other):
    """How two BOOKS are apart: what each has that the other hasn't."""
    return lacking(one, other), lacking(other, one)
