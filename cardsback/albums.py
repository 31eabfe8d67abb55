"""ALBUMS: BOOKS that are turned by deeds, which can be taken back."""

from cardsback.books import both_books, lacking, with_page, without_page
from cardsback.errors import NoBack, TooMany

MOST_PAGES = 80


class Album:
    """A BOOK by TERMS, with its deeds."""

    def __init__(self, terms):
        self.limits = tuple(terms)
        self.done = []
        # The BOOK behind the first k deeds, for each k.
        self.views = [()]

    def turn(self, deed, book):
        """Do a deed that makes this BOOK of the one that is there, or TooMany."""
        if len(book) > MOST_PAGES:
            raise TooMany("pages")
        self.done.append(deed)
        self.views.append(book)

    def tell(self, page):
        """True of a new PAGE, which is in the BOOK from then on, False of one that is there, or TooMany."""
        if page in self.book():
            return False
        self.turn(("tell", page), with_page(self.book(), page))
        return True

    def strike(self, page):
        """Strike a PAGE out, or NoPage."""
        self.turn(("strike", page), without_page(self.book(), page))

    def take_in(self, album):
        """Take in all PAGES of an ALBUM that aren't there, and tell how many, or TooMany."""
        fresh = lacking(album.book(), self.book())
        if fresh:
            self.turn(("take", fresh), both_books(self.book(), fresh))
        return len(fresh)

    def back(self):
        """Take the last deed back and tell it, or NoBack."""
        if not self.done:
            raise NoBack()
        self.views.pop()
        return self.done.pop()

    def book(self):
        """The BOOK."""
        return self.views[-1]

    def terms(self):
        """The TERMS."""
        return self.limits

    def deeds(self):
        """How many deeds there are."""
        return len(self.done)

    def elder(self, k):
        """The BOOK behind the first k deeds, or TooMany."""
        if not 0 <= k <= len(self.done):
            raise TooMany("deeds")
        return self.views[k]
