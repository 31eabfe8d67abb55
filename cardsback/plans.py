"""A house's PLAN: the fewest days out on which it pays all that is wanted of it in time."""

from cardsback.bookranks import ranks
from cardsback.books import up_to
from cardsback.days import WEEK
from cardsback.errors import NoHouse, NoOrder
from cardsback.fewest import fewest, fewest_goings
from cardsback.pages import in_order
from cardsback.walking import walked
from cardsback.wanted import wanted, wanted_by


def wants_of(some):
    """The WANTS of what is WANTED."""
    return tuple((house, days) for house, sort, days in some)


def plan(book, terms, day, name, most, far):
    """A pair (outs, CASES), or NoHouse, NoOrder, NoCrowd, TooMany."""
    some = wanted(book, terms, day, name, far)
    word, order = ranks(book, day)
    if word == "ring":
        raise NoOrder(order)
    goings, cases = fewest(wants_of(some), most)
    sorts = {house: sort for house, sort, days in some}
    outs = []
    for later, houses in goings:
        outs.append((later, tuple((sorts[house], later, name, house) for house in order if house in houses)))
    return tuple(outs), cases


def followed(book, day, outs):
    """The BOOK of the PAGES of days up to this one and of the outs' PAGES."""
    return in_order(list(up_to(book, day)) + [page for later, pages in outs for page in pages])


def home_worth(book, terms, day, name, most, far, house):
    """For each weekday how many outs are the fewest if the house's HOME had it, too, or None; or NoHouse, TooMany."""
    walk = walked(book, terms, day)
    for asked in (name, house):
        if asked not in walk.homes:
            raise NoHouse(asked)
    home = walk.homes[house]
    worths = []
    for number in range(WEEK):
        # A HOME is only asked what it has, so the weekday may stand at its end, and twice.
        walk.homes[house] = home + (number,)
        worths.append(fewest_goings(wants_of(wanted_by(walk, terms, day, name, far)), most))
    return tuple(worths)
