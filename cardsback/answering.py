"""What answered what, and what would come of a GOING that is told anew."""

from cardsback.books import up_to, with_page
from cardsback.pages import page_day, page_place
from cardsback.walking import marks, walked


def triple_place(triple):
    """By this triples (ower, owed, page of the DUE) are told: as their pages STAND."""
    return page_place(triple[2])


def answered(book, terms, day):
    """Pairs (GOING, triples (ower, owed, page) of the DUES that it answered), as they STAND."""
    rows = []
    for page, some in walked(book, terms, day).answers:
        triples = [(ower, owed, made) for ower, owed, sort, made, falls in some]
        rows.append((page, tuple(sorted(triples, key=triple_place))))
    return rows


def would(book, terms, day, page):
    """The MARK that a GOING of the day, or of a later one, has where nothing else is told of later days."""
    told = marks(with_page(up_to(book, day), page), terms, page_day(page))
    return dict(told)[page]
