"""A desk: ALBUMS by NAMES, which are told and asked by rows of words."""

from cardsback.albums import Album
from cardsback.bookranks import ranks
from cardsback.errors import NoRow, TooMany
from cardsback.owing import owes
from cardsback.plans import home_worth, plan
from cardsback.readings import line_things
from cardsback.rudes import rude
from cardsback.texts import book_lines, days_word, due_line, page_line
from cardsback.walking import dues
from cardsback.wanted import wanted
from cardsback.words import thing_of

MOST_ALBUMS = 2

# What stands behind the first word of a row; a PAGE has all words that are left.
ROWS = {
    "album": ("fresh", "term", "term"),
    "tell": ("album", "page"),
    "strike": ("album", "page"),
    "take": ("album", "album"),
    "back": ("album",),
    "deeds": ("album",),
    "book": ("album",),
    "elder": ("album", "k"),
    "dues": ("album", "day"),
    "owes": ("album", "day", "name", "name"),
    "rude": ("album", "day"),
    "ranks": ("album", "day"),
    "wanted": ("album", "day", "name", "far"),
    "plan": ("album", "day", "name", "most", "far"),
    "worth": ("album", "day", "name", "most", "far", "name"),
}


def listed(lines):
    """Lines as one text."""
    return "; ".join(lines) or "none"


def tell_page(album, page):
    """Tell a PAGE."""
    return "new" if album.tell(page) else "there"


def strike_page(album, page):
    """Strike a PAGE out."""
    album.strike(page)
    return "ok"


def take_album(album, other):
    """Take in another ALBUM, and tell how many PAGES are new."""
    return str(album.take_in(other))


def take_back(album):
    """Take the last deed back."""
    word, what = album.back()
    return f"take {len(what)}" if word == "take" else f"{word} {page_line(what)}"


def deeds_row(album):
    """How many deeds there are."""
    return str(album.deeds())


def book_row(album):
    """The lines of the BOOK."""
    return listed(book_lines(album.book()))


def elder_row(album, k):
    """The lines of the BOOK behind the first k deeds."""
    return listed(book_lines(album.elder(k)))


def dues_row(album, day):
    """The lines of the DUES."""
    return listed([due_line(due) for due in dues(album.book(), album.terms(), day)])


def owes_row(album, day, a, b):
    """The lines of the DUES of a to b."""
    return listed([due_line(due) for due in owes(album.book(), album.terms(), day, a, b)])


def rude_row(album, day):
    """Who is RUDE, with the day of the last fall and the GOING."""
    some = rude(album.book(), album.terms(), day)
    return listed([f"{ower} {owed} {fall} {page_line(page)}" for ower, owed, page, fall in some])


def ranks_row(album, day):
    """The ORDER of the houses, or a RING by the first NAMES of its SAYINGS."""
    word, some = ranks(album.book(), day)
    names = [saying[0] for saying in some] if word == "ring" else list(some)
    return " ".join([word] + names)


def wanted_row(album, day, name, far):
    """To which houses a house has to go, how, and on which days it can."""
    some = wanted(album.book(), album.terms(), day, name, far)
    return listed([f"{house} {sort} {days_word(days)}" for house, sort, days in some])


def plan_row(album, day, name, most, far):
    """The lines of the GOINGS of a house's PLAN."""
    outs, cases = plan(album.book(), album.terms(), day, name, most, far)
    return listed([page_line(page) for later, pages in outs for page in pages])


def worth_row(album, day, name, most, far, house):
    """What each weekday more is worth."""
    worths = home_worth(album.book(), album.terms(), day, name, most, far, house)
    return " ".join(["-" if worth is None else str(worth) for worth in worths])


ACTIONS = {
    "tell": tell_page,
    "strike": strike_page,
    "take": take_album,
    "back": take_back,
    "deeds": deeds_row,
    "book": book_row,
    "elder": elder_row,
    "dues": dues_row,
    "owes": owes_row,
    "rude": rude_row,
    "ranks": ranks_row,
    "wanted": wanted_row,
    "plan": plan_row,
    "worth": worth_row,
}


class Desk:
    """ALBUMS by NAMES."""

    def __init__(self):
        self.albums = {}

    def read(self, form, text):
        """The thing of a form that a part of a row writes, or None."""
        if form == "album":
            return self.albums.get(text)
        if form == "fresh":
            return None if text in self.albums else thing_of("name", text)
        if form == "page":
            things, whole = line_things(text)
            return things if whole else None
        return thing_of(form, text)

    def read_row(self, row):
        """The first word of a row and the things that it has behind it, or NoRow."""
        words = row.split(" ")
        forms = ROWS.get(words[0], ())
        parts = words[1:]
        if "page" in forms:
            parts = words[1:2] + [" ".join(words[2:])]
        things = [self.read(form, part) for form, part in zip(forms, parts)]
        if not forms or len(forms) != len(parts) or any(thing is None for thing in things):
            raise NoRow(row)
        return words[0], things

    def make(self, name, visit, card):
        """Make an ALBUM of these TERMS, or TooMany."""
        if len(self.albums) == MOST_ALBUMS:
            raise TooMany("albums")
        self.albums[name] = Album((visit, card))
        return "ok"

    def say(self, row):
        """Do what a row tells, and answer it; or NoRow, or as it is refused where it is done."""
        word, things = self.read_row(row)
        if word == "album":
            return self.make(*things)
        action = ACTIONS[word]
        return action(*things)
