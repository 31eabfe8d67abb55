import random
import unittest

from cardsback.books import up_to
from cardsback.errors import NoHouse
from cardsback.wanted import wanted
from tests.secondwalk import Second, book_of, draw_terms, draw_walk_book
from tests.things import NAMES, outcome, refusal

TERMS = (5, 3)


def right_wanted(book, terms, day, name, far):
    """WANTED by the second walk, DUE by DUE and day by day; None where the house does not stand."""
    second = Second(book, terms, day)
    if name not in second.homes:
        return None
    rows = []
    for house in sorted(second.homes):
        mine = [due for due in second.dues() if due[:2] == (name, house) and second.left(due) > 0]
        lasts = [second.last(day, due) for due in mine]
        if not any(one - day <= far for one in lasts):
            continue
        sort = "visit" if "visit" in [due[2] for due in mine] else "card"
        days = []
        for e in range(day + 1, min(lasts) + 1):
            black = second.black_on(e, name)
            at_home = e % 7 in second.homes[house] and not second.black_on(e, house)
            if not black and (sort == "card" or at_home):
                days.append(e)
        rows.append((house, sort, tuple(days)))
    return tuple(rows)


class WantedTest(unittest.TestCase):
    def test_nothing(self):
        self.assertEqual(wanted(book_of(), TERMS, 3, "ash", 28), ())
        self.assertEqual(wanted(book_of(("visit", 2, "ash", "elm")), TERMS, 3, "ash", 28), ())

    def test_one(self):
        book = book_of(("visit", 2, "elm", "ash"))
        self.assertEqual(wanted(book, TERMS, 2, "ash", 28), (("elm", "visit", (3, 4, 5, 6, 7)),))
        self.assertEqual(wanted(book, TERMS, 6, "ash", 28), (("elm", "visit", (7,)),))
        self.assertEqual(wanted(book, TERMS, 7, "ash", 28), ())
        self.assertEqual(wanted(book, TERMS, 1, "ash", 28), ())

    def test_a_card(self):
        book = book_of(("card", 2, "elm", "ash"), ("home", 2, "elm", ()))
        self.assertEqual(wanted(book, TERMS, 2, "ash", 28), (("elm", "card", (3, 4, 5)),))

    def test_far(self):
        book = book_of(("visit", 2, "elm", "ash"))
        self.assertEqual(wanted(book, TERMS, 2, "ash", 4), ())
        self.assertEqual(wanted(book, TERMS, 2, "ash", 5), (("elm", "visit", (3, 4, 5, 6, 7)),))
        self.assertEqual(wanted(book, TERMS, 6, "ash", 1), (("elm", "visit", (7,)),))

    def test_several_rising(self):
        book = book_of(("card", 2, "fern", "ash"), ("visit", 3, "elm", "ash"), ("house", 1, "a", ()),
                       ("card", 3, "a", "ash"))
        self.assertEqual(wanted(book, TERMS, 3, "ash", 28),
                         (("a", "card", (4, 5, 6)), ("elm", "visit", (4, 5, 6, 7, 8)), ("fern", "card", (4, 5))))

    def test_the_least_last(self):
        book = book_of(("card", 2, "elm", "ash"), ("card", 4, "elm", "ash"))
        self.assertEqual(wanted(book, TERMS, 4, "ash", 28), (("elm", "card", (5,)),))
        book = book_of(("visit", 2, "elm", "ash"), ("card", 3, "elm", "ash"))
        self.assertEqual(wanted(book, TERMS, 3, "ash", 28), (("elm", "visit", (4, 5, 6)),))

    def test_a_visit_whose_last_is_beyond_far(self):
        book = book_of(("visit", 2, "elm", "ash"), ("card", 2, "elm", "ash"))
        self.assertEqual(wanted(book, (40, 3), 2, "ash", 3), (("elm", "visit", (3, 4, 5)),))
        self.assertEqual(wanted(book, (40, 3), 2, "ash", 2), ())

    def test_rude_ones_count_for_nothing(self):
        book = book_of(("visit", 2, "elm", "ash"), ("card", 6, "elm", "ash"))
        self.assertEqual(wanted(book, (2, 9), 7, "ash", 28), (("elm", "card", (8, 9, 10, 11, 12, 13, 14, 15)),))
        self.assertEqual(wanted(book, (2, 1), 7, "ash", 28), ())
        self.assertEqual(wanted(book, (2, 1), 6, "ash", 28), (("elm", "card", (7,)),))

    def test_days_on_which_one_mourns(self):
        made = ("visit", 2, "elm", "ash")
        self.assertEqual(wanted(book_of(made, ("mourn", 3, "ash", 2)), TERMS, 3, "ash", 28),
                         (("elm", "visit", (5, 6, 7, 8, 9)),))
        self.assertEqual(wanted(book_of(made, ("mourn", 3, "elm", 2)), TERMS, 3, "ash", 28),
                         (("elm", "visit", (5, 6, 7, 8, 9)),))
        card = ("card", 2, "elm", "ash")
        self.assertEqual(wanted(book_of(card, ("mourn", 3, "ash", 2)), TERMS, 3, "ash", 28),
                         (("elm", "card", (5, 6, 7)),))
        # A card can be left with who mourns.
        self.assertEqual(wanted(book_of(card, ("mourn", 3, "elm", 2)), TERMS, 3, "ash", 28),
                         (("elm", "card", (4, 5, 6, 7)),))
        self.assertEqual(wanted(book_of(made, ("mourn", 4, "ash", 2)), TERMS, 3, "ash", 28),
                         (("elm", "visit", (4, 5, 6, 7)),))

    def test_days_on_which_nobody_is_at_home(self):
        made = ("visit", 2, "elm", "ash")
        self.assertEqual(wanted(book_of(made, ("home", 3, "elm", (0, 5))), TERMS, 3, "ash", 28),
                         (("elm", "visit", (5, 7)),))
        self.assertEqual(wanted(book_of(made, ("home", 3, "elm", (0, 5))), TERMS, 2, "ash", 28),
                         (("elm", "visit", (3, 4, 5, 6, 7)),))
        self.assertEqual(wanted(book_of(made, ("home", 3, "ash", ())), TERMS, 6, "ash", 28), (("elm", "visit", (7,)),))

    def test_days_of_none(self):
        made = ("visit", 2, "elm", "ash")
        self.assertEqual(wanted(book_of(made, ("home", 3, "elm", ())), TERMS, 3, "ash", 28), (("elm", "visit", ()),))

    def test_mourning_puts_a_last_beyond_far(self):
        book = book_of(("card", 2, "elm", "ash"), ("mourn", 3, "elm", 20))
        self.assertEqual(wanted(book, TERMS, 3, "ash", 21), ())
        self.assertEqual(wanted(book, TERMS, 3, "ash", 22), (("elm", "card", tuple(range(4, 26))),))

    def test_up_to_the_last_days(self):
        book = tuple((page[0], page[1] + 9960) + page[2:] for page in book_of(("card", 2, "elm", "ash")))
        self.assertEqual(wanted(book, (60, 37), 9971, "ash", 28), (("elm", "card", tuple(range(9972, 10000))),))
        self.assertEqual(wanted(book, (60, 38), 9971, "ash", 28), ())

    def test_no_house(self):
        book = book_of(("card", 2, "elm", "ash"), ("join", 4, "fern", "ash"))
        for day, name in ((0, "oak"), (4, "ash"), (9, "ash"), (9, "oak")):
            error = refusal(wanted, book, TERMS, day, name, 28)
            self.assertIs(type(error), NoHouse)
            self.assertIs(error.name, name)
        self.assertEqual(wanted(book, TERMS, 4, "fern", 28), (("elm", "card", (5,)),))
        self.assertEqual(outcome(wanted, (), TERMS, 4, "fern", 28), "NoHouse {'name': 'fern'}")


class DrawnTest(unittest.TestCase):
    def test_against_the_second_walk(self):
        rng = random.Random(75)
        met = {"none": 0, "visit": 0, "card": 0, "void": 0}
        for _ in range(500):
            book, terms, day = draw_walk_book(rng), draw_terms(rng), rng.randrange(40)
            kept = repr(book)
            for name in NAMES[:6]:
                far = rng.choice((1, 2, 3, 5, 9, 28))
                right = right_wanted(book, terms, day, name, far)
                if right is None:
                    self.assertIs(type(refusal(wanted, book, terms, day, name, far)), NoHouse)
                    continue
                told = wanted(book, terms, day, name, far)
                self.assertEqual(repr(told), repr(right))
                self.assertEqual(wanted(up_to(book, day), terms, day, name, far), right)
                met["none"] += not right
                for house, sort, days in right:
                    met[sort] += 1
                    met["void"] += days == ()
            self.assertEqual(repr(book), kept)
        self.assertGreater(min(met.values()), 10, met)


if __name__ == "__main__":
    unittest.main()
