"""Point 3: each refusal of the whole program, by its class alone, its fields the very ones."""

import unittest

from cardsback import errors
from cardsback.adding import places
from cardsback.albums import Album
from cardsback.athome import at_home, home_days
from cardsback.bookranks import first_of
from cardsback.books import without_page
from cardsback.casechecker import lets_cases
from cardsback.crowds import lets_crowd
from cardsback.desk import Desk
from cardsback.fewest import fewest
from cardsback.heirs import heir, parted_from
from cardsback.lasts import last
from cardsback.letting import let_go
from cardsback.lettingchecker import lets_letting
from cardsback.owing import owes
from cardsback.plans import home_worth, plan
from cardsback.readings import read_book, read_cases, read_page
from cardsback.ringchecker import lets_order, lets_ring
from cardsback.ringsapart import lets_apart
from cardsback.rounds import lets_round
from cardsback.rows import row_round
from cardsback.rudechecker import lets_rude
from cardsback.soon import soon
from cardsback.standing import home_of
from cardsback.wanted import wanted
from cardsback.worths import day_worth, place_worth, want_worth
from tests.secondwalk import WEEK, book_of
from tests.things import is_way, refusal
from tests.wantschecks import is_crowd

TERMS = (5, 3)
CARD, VISIT = ("card", 2, "ash", "elm"), ("visit", 2, "ash", "elm")
NAME = "".join(("oa", "k"))
BOTH = (("a", "b"), ("b", "a"))
FOUR = tuple(sorted((a, b) for a in "abcd" for b in "abcd" if a != b))
APART = tuple((name, (2 * k,)) for k, name in enumerate("abcde"))


def owing_five():
    """A BOOK in which oak owes five houses that are at home on unlike weekdays."""
    houses = [("house", 0, name, (k,)) for k, name in enumerate("abcde")]
    visits = [("visit", 7 + k, name, "oak") for k, name in enumerate("abcde")]
    return book_of(("house", 0, "oak", WEEK), *houses, *visits)


class RefusalsTest(unittest.TestCase):
    def check(self, kind, fields, function, *args):
        """A call is refused by this class alone, with these fields; those that were handed in are the very ones."""
        kept = repr(args)
        error = refusal(function, *args)
        self.assertIs(type(error), getattr(errors, kind), function)
        self.assertEqual(repr(vars(error)), repr(fields), function)
        for other in vars(errors).values():
            if isinstance(other, type) and isinstance(error, other):
                self.assertIn(other.__name__, (kind, "CardsError"))
        for thing in args:
            if isinstance(thing, (str, tuple)) and thing in fields.values():
                self.assertTrue(any(thing is field for field in vars(error).values()), function)
        self.assertEqual(repr(args), kept, function)
        with self.assertRaises(getattr(errors, kind)):
            function(*args)

    def test_no_house(self):
        book = book_of(CARD)
        for function, args in ((home_of, (book, 9, NAME)), (heir, (book, 9, NAME)), (parted_from, (book, 9, NAME)),
                               (at_home, (book, 9, NAME)), (home_days, (book, 9, NAME, 5)),
                               (owes, (book, TERMS, 9, NAME, "ash")), (owes, (book, TERMS, 9, "ash", NAME)),
                               (soon, (book, TERMS, 9, NAME, 5)), (first_of, (book, 9, (NAME,))),
                               (first_of, (book, 9, ("ash", NAME, "zz"))), (wanted, (book, TERMS, 9, NAME, 5)),
                               (plan, (book, TERMS, 9, NAME, 2, 5)), (home_worth, (book, TERMS, 9, NAME, 2, 5, "ivy")),
                               (home_worth, (book, TERMS, 9, "ash", 2, 5, NAME))):
            self.check("NoHouse", {"name": NAME}, function, *args)

    def test_no_page(self):
        page = ("card", 3, "ash", "elm")
        album = Album(TERMS)
        album.tell(CARD)
        self.check("NoPage", {"page": page}, without_page, book_of(CARD), page)
        self.check("NoPage", {"page": page}, album.strike, page)

    def test_no_due(self):
        due = ("elm", "ash", "card", CARD, (3, 4, 5))
        self.check("NoDue", {"due": due}, last, book_of(CARD), TERMS, 9, due)
        self.check("NoDue", {"due": due}, last, book_of(CARD), TERMS, 4, due)

    def test_no_order(self):
        book = book_of(("ahead", 3, "ash", "elm"), ("ahead", 3, "elm", "ash"))
        for function, args, some in ((places, (("a", "b"), BOTH, "a"), BOTH),
                                     (first_of, (book, 3, ("ash",)), (("ash", "elm"), ("elm", "ash"))),
                                     (plan, (book, TERMS, 3, "ash", 2, 5), (("ash", "elm"), ("elm", "ash")))):
            error = refusal(function, *args)
            self.assertIs(type(error), errors.NoOrder)
            self.assertTrue(is_way(some, error.ring[0][0], error.ring[0][0], error.ring))
            self.assertEqual(list(vars(error)), ["ring"])

    def test_no_crowd(self):
        self.check("NoCrowd", {"names": ("a", "b")}, fewest, (("a", (1,)), ("b", (1,)), ("c", (2,))), 1)
        book = book_of(VISIT, ("home", 2, "ash", ()))
        self.check("NoCrowd", {"names": ("ash",)}, plan, book, TERMS, 2, "elm", 2, 28)
        self.assertTrue(is_crowd((("a", ()), ("b", ())), 4, refusal(fewest, (("a", ()), ("b", ())), 4).names))

    def test_too_many_goings(self):
        fields = {"word": "goings"}
        self.check("TooMany", fields, fewest, APART, 4)
        self.check("TooMany", fields, day_worth, APART, 4, "a", (0,))
        self.check("TooMany", fields, want_worth, APART + (("f", (9,)),), 4)
        self.check("TooMany", fields, place_worth, APART)
        book = owing_five()
        self.check("TooMany", fields, plan, book, (28, 28), 12, "oak", 4, 28)
        self.check("TooMany", fields, home_worth, book, (28, 28), 12, "oak", 4, 28, "ash")

    def test_too_many_of_other_things(self):
        self.check("TooMany", {"word": "gone"}, let_go, ("a", "b", "c", "d"), FOUR)
        self.check("TooMany", {"word": "gaps"}, row_round, (("a", (1, 3)),))
        album, other, desk = Album(TERMS), Album(TERMS), Desk()
        for day in range(80):
            album.tell(("card", day, "ash", "elm"))
        other.tell(("visit", 1, "ash", "elm"))
        self.check("TooMany", {"word": "pages"}, album.tell, ("card", 80, "ash", "elm"))
        self.check("TooMany", {"word": "pages"}, other.take_in, album)
        for k in (-1, 81, 10 ** 100, -(10 ** 100)):
            self.check("TooMany", {"word": "deeds"}, album.elder, k)
        desk.say("album one 5 3")
        desk.say("album other 5 3")
        self.check("TooMany", {"word": "albums"}, desk.say, "album third 5 3")

    def test_no_back(self):
        self.check("NoBack", {}, Album(TERMS).back)
        desk = Desk()
        desk.say("album one 5 3")
        self.check("NoBack", {}, desk.say, "back one")

    def test_no_text(self):
        self.check("NoText", {"row": 0, "word": 1}, read_page, "card x ash elm")
        self.check("NoText", {"row": 1, "word": 3}, read_book, ["card 1 ash elm", "card 1 ash"])
        self.check("NoText", {"row": 0, "word": 2}, read_cases, "short a b")

    def test_no_row(self):
        row = " ".join(("book", "one"))
        self.check("NoRow", {"row": row}, Desk().say, row)

    def test_no_paper(self):
        wants, names = (("a", (1,)), ("b", (2, 3))), ("a", "b")
        rows = ((lets_rude, (book_of(CARD), TERMS, 3, ("elm", "ash", CARD, (3,))), "few", ()),
                (lets_order, (names, (), ("a", "a")), "name", (1,)), (lets_ring, (names, BOTH, BOTH[:1]), "link", (0,)),
                (lets_apart, (names, BOTH, (BOTH, BOTH)), "apart", (1,)),
                (lets_letting, (names, BOTH, 1, ("one", BOTH, (("rings", ()), None))), "few", (0,)),
                (lets_round, (wants, 1, ((1, ("a",)), (2, ("a",)))), "name", (1, 0)),
                (lets_crowd, (wants, 1, ("a", "zz")), "name", (1,)),
                (lets_cases, (wants, 1, 2, ("more", ("b",), (("short", ("a", "b")), None))), "room", (0,)))
        for function, args, word, path in rows:
            self.check("NoPaper", {"word": word, "path": path}, function, *args)
            for thing in (None, True, [], {}, "x"):
                self.check("NoPaper", {"word": "shape", "path": ()}, function, *args[:-1], thing)


class FirstTest(unittest.TestCase):
    """Where several are due, the first in the order told goes."""

    def test_plans(self):
        ring = (("ahead", 3, "elm", "oak"), ("ahead", 3, "oak", "elm"))
        crowd = ("home", 12, "a", ())
        five = owing_five()
        # Ahead of one another: NoHouse, NoOrder, NoCrowd, TooMany.
        for pages, name, kind in (((), "oak", "TooMany"), ((crowd,), "oak", "NoCrowd"),
                                  (ring + (crowd,), "oak", "NoOrder"), (ring + (crowd,), "never", "NoHouse")):
            book = book_of(*five, *pages)
            self.assertIs(type(refusal(plan, book, (28, 28), 12, name, 4, 28)), getattr(errors, kind))

    def test_houses_ahead_of_all_else(self):
        five = owing_five()
        self.assertEqual(refusal(home_worth, five, (28, 28), 12, "never", 4, 28, "none").name, "never")
        self.assertEqual(refusal(home_worth, five, (28, 28), 12, "oak", 4, 28, "none").name, "none")
        self.assertEqual(refusal(owes, five, TERMS, 12, "never", "none").name, "never")
        ring = book_of(("ahead", 3, "ash", "elm"), ("ahead", 3, "elm", "ash"))
        self.assertIs(type(refusal(first_of, ring, 3, ("ash", "never"))), errors.NoHouse)

    def test_rows_ahead_of_all_else(self):
        desk = Desk()
        desk.say("album one 5 3")
        desk.say("album other 5 3")
        for row in ("album one 5 3", "album third 5 61", "strike third card 1 ash elm", "elder one 1000000"):
            self.assertIs(type(refusal(desk.say, row)), errors.NoRow)


if __name__ == "__main__":
    unittest.main()
