"""A small checker of RUDE PAPERS."""

from cardsback.days import is_day, is_name, is_rising
from cardsback.errors import NoPaper
from cardsback.pages import is_page, page_kind
from cardsback.walking import GOINGS, dues, is_rude


def is_falls(thing):
    """Whether any thing is a rising tuple of DAYS."""
    return isinstance(thing, tuple) and all(is_day(part) for part in thing) and is_rising(thing)


def is_paper(thing):
    """Whether any thing has the shape of a RUDE PAPER."""
    if not isinstance(thing, tuple) or len(thing) != 4:
        return False
    ower, owed, page, falls = thing
    if not is_name(ower) or not is_name(owed) or not is_falls(falls):
        return False
    return is_page(page) and page_kind(page) in GOINGS


def paper_fault(book, terms, day, thing):
    """The word by which any thing is no RUDE PAPER, or None."""
    if not is_paper(thing):
        return "shape"
    ower, owed, page, falls = thing
    # Of one ower, owed and page no two DUES stand.
    found = [due for due in dues(book, terms, day) if (due[0], due[1], due[3]) == (ower, owed, page)]
    if not found:
        return "due"
    if found[0][4] != falls:
        return "days"
    if not is_rude(terms, found[0]):
        return "few"
    return None


def lets_rude(book, terms, day, thing):
    """True of a RUDE PAPER of the BOOK BEHIND the day, or NoPaper."""
    word = paper_fault(book, terms, day, thing)
    if word is not None:
        raise NoPaper(word, ())
    return True
