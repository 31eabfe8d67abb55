import random
import unittest

from cardsback.bookranks import first_of, ranks
from cardsback.books import up_to
from cardsback.errors import NoHouse, NoOrder
from cardsback.pages import in_order
from cardsback.ranking import ranked
from cardsback.sayings import sayings
from cardsback.standing import standing
from tests.things import NAMES, draw_book, is_way, refusal

HOUSES = [("house", 1, name, ()) for name in ("ash", "elm", "fern")]


class RanksTest(unittest.TestCase):
    def test_no_houses(self):
        self.assertEqual(ranks((), 4), ("order", ()))
        self.assertEqual(ranks(in_order(HOUSES), 0), ("order", ()))

    def test_order(self):
        book = in_order(HOUSES + [("ahead", 2, "fern", "ash"), ("ahead", 3, "elm", "fern")])
        self.assertEqual(ranks(book, 1), ("order", ("ash", "elm", "fern")))
        self.assertEqual(ranks(book, 2), ("order", ("elm", "fern", "ash")))
        self.assertEqual(ranks(book, 3), ("order", ("elm", "fern", "ash")))

    def test_ring_until_a_house_goes_up(self):
        book = in_order(HOUSES + [("ahead", 2, "fern", "ash"), ("ahead", 3, "ash", "fern"), ("join", 5, "elm", "ash")])
        word, ring = ranks(book, 3)
        self.assertEqual((word, sorted(ring)), ("ring", [("ash", "fern"), ("fern", "ash")]))
        self.assertEqual(ranks(book, 5), ("order", ("elm", "fern")))

    def test_drawn(self):
        rng = random.Random(101)
        words = []
        for _ in range(150):
            book = draw_book(rng, many=60)
            kept = repr(book)
            day = rng.randrange(32)
            names = tuple(name for name, home in standing(book, day))
            some = sayings(book, day)
            told = ranks(book, day)
            words.append(told[0])
            right = ranked(names, some)
            self.assertEqual(told[0], right[0])
            if told[0] == "order":
                self.assertEqual(repr(told), repr(right))
            else:
                self.assertTrue(is_way(some, told[1][0][0], told[1][0][0], told[1]))
            self.assertEqual(ranks(up_to(book, day), day)[0], told[0])
            self.assertEqual(repr(ranks(book, day)), repr(told))
            self.assertEqual(repr(book), kept)
        self.assertEqual(set(words), {"order", "ring"})

    def test_however_many_sayings(self):
        names = tuple(NAMES)
        ahead = [("ahead", 2, a, b) for a in names for b in names if a > b]
        book = in_order([("house", 1, name, ()) for name in names] + ahead)
        self.assertEqual(ranks(book, 2), ("order", names[::-1]))


class FirstOfTest(unittest.TestCase):
    def test_first(self):
        book = in_order(HOUSES + [("ahead", 2, "fern", "ash")])
        self.assertEqual(first_of(book, 1, ("ash", "fern")), "ash")
        self.assertEqual(first_of(book, 2, ("ash", "fern")), "fern")
        self.assertEqual(first_of(book, 2, ("ash", "elm", "fern")), "elm")
        self.assertEqual(first_of(book, 2, ("ash",)), "ash")

    def test_no_house(self):
        book = in_order(HOUSES + [("join", 4, "ash", "elm")])
        for day, names, name in ((0, ("ash", "elm"), "ash"), (4, ("ash", "elm", "fern"), "elm"), (4, ("elm",), "elm"),
                                 (3, ("ash", "birch", "zz"), "birch"), (4, ("birch", "elm"), "birch")):
            error = refusal(first_of, book, day, names)
            self.assertIs(type(error), NoHouse)
            self.assertEqual(error.name, name)

    def test_no_order(self):
        book = in_order(HOUSES + [("ahead", 2, "fern", "elm"), ("ahead", 2, "elm", "fern")])
        for names in (("ash",), ("ash", "elm"), ("ash", "elm", "fern")):
            error = refusal(first_of, book, 2, names)
            self.assertIs(type(error), NoOrder)
            self.assertEqual(sorted(error.ring), [("elm", "fern"), ("fern", "elm")])
        self.assertEqual(first_of(book, 1, ("elm", "fern")), "elm")

    def test_no_house_goes_ahead_of_no_order(self):
        book = in_order(HOUSES + [("ahead", 2, "fern", "elm"), ("ahead", 2, "elm", "fern")])
        self.assertIs(type(refusal(first_of, book, 2, ("ash", "birch"))), NoHouse)

    def test_drawn(self):
        rng = random.Random(102)
        for _ in range(150):
            book = draw_book(rng, many=30)
            day = rng.randrange(32)
            there = [name for name, home in standing(book, day)]
            names = tuple(sorted(rng.sample(NAMES, rng.randint(1, 3))))
            if there and rng.random() < 0.7:
                names = tuple(sorted(rng.sample(there, rng.randint(1, len(there)))))
            lacking = [name for name in names if name not in there]
            error = refusal(first_of, book, day, names)
            word, told = ranks(book, day)
            if lacking:
                self.assertEqual((type(error), error.name), (NoHouse, lacking[0]))
            elif word == "ring":
                self.assertIs(type(error), NoOrder)
                self.assertTrue(is_way(sayings(book, day), error.ring[0][0], error.ring[0][0], error.ring))
            else:
                self.assertEqual(first_of(book, day, names), min(names, key=told.index))


if __name__ == "__main__":
    unittest.main()
