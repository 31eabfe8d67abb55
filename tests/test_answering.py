import random
import unittest

from cardsback.answering import answered, would
from cardsback.books import up_to, with_page
from cardsback.owing import sums
from cardsback.pages import in_order, stands_ahead
from cardsback.walking import dues, marks
from tests.secondwalk import WEEK, Second, book_of, draw_terms, draw_walk_book, draw_walk_page, drawn_walks
from tests.things import NAMES

TERMS = (5, 3)
GOINGS = ("card", "visit")
CARD, VISIT = ("card", 1, "ash", "elm"), ("visit", 2, "ash", "elm")


class AnsweredTest(unittest.TestCase):
    def test_nothing_answered(self):
        self.assertEqual(answered((), TERMS, 9999), [])
        self.assertEqual(answered(book_of(), TERMS, 9), [])
        self.assertEqual(answered(book_of(CARD, VISIT), TERMS, 9), [])
        # A card answers no visit, and makes a DUE of its own.
        self.assertEqual(answered(book_of(VISIT, ("card", 3, "elm", "ash")), TERMS, 9), [])
        self.assertEqual(answered(book_of(CARD, ("join", 2, "fern", "elm"), ("visit", 3, "elm", "ash")), TERMS, 9), [])

    def test_one_due(self):
        back = ("visit", 4, "elm", "ash")
        book = book_of(CARD, back)
        self.assertEqual(answered(book, TERMS, 3), [])
        for day in (4, 5, 400):
            self.assertEqual(answered(book, TERMS, day), [(back, (("elm", "ash", CARD),))])

    def test_several_as_these_pages_stand(self):
        made = [("visit", 3, "ash", "elm"), ("card", 3, "ash", "elm"), ("visit", 2, "ash", "elm"),
                ("card", 10, "ash", "elm"), ("card", 9, "ash", "elm")]
        back = ("visit", 11, "elm", "ash")
        told = answered(book_of(*made, back), TERMS, 20)
        order = [made[2], made[1], made[0], made[4], made[3]]
        self.assertEqual(told, [(back, tuple(("elm", "ash", page) for page in order))])
        self.assertIs(type(told), list)
        self.assertEqual([type(part) for part in (told[0], told[0][1], told[0][1][0])], [tuple] * 3)

    def test_some_stay(self):
        back, again = ("card", 3, "elm", "ash"), ("visit", 4, "elm", "ash")
        book = book_of(CARD, VISIT, back, again)
        self.assertEqual(answered(book, TERMS, 3), [(back, (("elm", "ash", CARD),))])
        self.assertEqual(answered(book, TERMS, 4), [(back, (("elm", "ash", CARD),)), (again, (("elm", "ash", VISIT),))])

    def test_goings_as_they_stand(self):
        made = [CARD, ("card", 1, "ash", "fern"), ("card", 2, "elm", "fern")]
        backs = [("visit", 4, "fern", "ash"), ("card", 4, "fern", "elm"), ("card", 3, "elm", "ash")]
        self.assertEqual(answered(book_of(*made, *backs), TERMS, 9), [
            (backs[2], (("elm", "ash", made[0]),)), (backs[1], (("fern", "elm", made[2]),)),
            (backs[0], (("fern", "ash", made[1]),))])

    def test_copies(self):
        part = ("part", 3, "elm", "oak", WEEK)
        one, other = ("card", 4, "elm", "ash"), ("visit", 5, "oak", "ash")
        self.assertEqual(answered(book_of(CARD, VISIT, part, one, other), TERMS, 9), [
            (one, (("elm", "ash", CARD),)), (other, (("oak", "ash", CARD), ("oak", "ash", VISIT)))])

    def test_houses_put_in_the_place_of_others(self):
        back, to = ("visit", 4, "fern", "ash"), ("visit", 4, "ash", "fern")
        self.assertEqual(answered(book_of(CARD, ("join", 3, "fern", "elm"), back), TERMS, 9),
                         [(back, (("fern", "ash", CARD),))])
        owed = ("card", 1, "elm", "ash")
        self.assertEqual(answered(book_of(owed, ("join", 3, "fern", "elm"), to), TERMS, 9),
                         [(to, (("ash", "fern", owed),))])

    def test_of_two_that_came_together_one_is_answered(self):
        pages = [CARD, ("part", 2, "elm", "oak", ()), ("join", 3, "elm", "oak"), ("card", 4, "elm", "ash")]
        self.assertEqual(answered(book_of(*pages), TERMS, 9), [(pages[3], (("elm", "ash", CARD),))])

    def test_rude_ones(self):
        back = ("card", 30, "elm", "ash")
        self.assertEqual(answered(book_of(CARD, back), TERMS, 30), [(back, (("elm", "ash", CARD),))])

    def test_drawn_against_the_second_walk(self):
        met = {"one": 0, "several": 0, "copies": 0, "others": 0}
        for book, terms, day in drawn_walks(321, 500):
            kept = repr(book)
            told = answered(book, terms, day)
            self.assertEqual(repr(told), repr(Second(book, terms, day).paid))
            self.assertEqual(answered(up_to(book, day), terms, day), told)
            for page, some in told:
                met["one" if len(some) == 1 else "several"] += 1
                met["copies"] += any(ower != made[3] for ower, owed, made in some)
                met["others"] += any(owed != made[2] for ower, owed, made in some)
            self.assertEqual(repr(book), kept)
        self.assertGreater(min(met.values()), 30, met)

    def test_drawn_with_marks_and_sums(self):
        for book, terms, day in drawn_walks(322, 100):
            told = answered(book, terms, day)
            counted = [(page, ("answer", len(some))) for page, some in told]
            self.assertEqual(counted, [row for row in marks(book, terms, day) if row[1][0] == "answer"])
            self.assertEqual(sum(len(some) for page, some in told), sums(book, terms, day)[3])
            for page, some in told:
                self.assertEqual({triple[:2] for triple in some}, {page[2:]})
                self.assertTrue(all(stands_ahead(made, page) for ower, owed, made in some))


class WouldTest(unittest.TestCase):
    def test_the_book_of_none(self):
        for day, page in ((0, CARD), (1, CARD), (2, VISIT), (5, ("visit", 9999, "ash", "elm"))):
            self.assertEqual(would((), TERMS, day, page), ("idle",))

    def test_each_mark(self):
        book = book_of(CARD, VISIT)
        for page, mark in ((("card", 3, "elm", "ash"), ("answer", 1)), (("visit", 3, "elm", "ash"), ("answer", 2)),
                           (("card", 3, "ash", "elm"), ("due",)), (("visit", 3, "fern", "ash"), ("due",)),
                           (("visit", 3, "oak", "ash"), ("idle",)), (("visit", 3, "ash", "oak"), ("idle",))):
            self.assertEqual(would(book, TERMS, 3, page), mark)
            self.assertIs(type(would(book, TERMS, 3, page)), tuple)

    def test_of_the_day_asked_and_of_later_ones(self):
        book = book_of(CARD, VISIT)
        for day in (2, 3, 9, 400):
            self.assertEqual(would(book, TERMS, 2, ("visit", day, "elm", "ash")), ("answer", 2))
        self.assertEqual(would(book, TERMS, 1, ("visit", 9, "elm", "ash")), ("answer", 1))
        self.assertEqual(would(book, TERMS, 0, ("visit", 9, "elm", "ash")), ("due",))

    def test_pages_of_the_day_asked_that_stand_behind_it(self):
        # A visit of the day stands behind a card of it.
        book = book_of(("visit", 2, "ash", "elm"))
        self.assertEqual(would(book, TERMS, 2, ("card", 2, "elm", "ash")), ("due",))
        self.assertEqual(would(book, TERMS, 2, ("visit", 2, "elm", "ash")), ("answer", 1))
        book = book_of(("card", 2, "ash", "elm"), ("card", 1, "ash", "fern"), ("visit", 2, "fern", "ash"))
        self.assertEqual(would(book, TERMS, 2, ("card", 2, "elm", "ash")), ("answer", 1))
        self.assertEqual(would(book, TERMS, 2, ("card", 2, "fern", "ash")), ("answer", 1))

    def test_pages_of_days_behind_the_one_asked_are_not_looked_at(self):
        later = [("visit", 4, "elm", "ash"), ("home", 4, "ash", ()), ("mourn", 4, "ash", 9), ("join", 4, "fern", "elm")]
        for page in later:
            self.assertEqual(would(book_of(CARD, VISIT, page), TERMS, 3, ("visit", 5, "elm", "ash")), ("answer", 2))
        told = [would(book_of(CARD, VISIT, page), TERMS, 4, ("visit", 5, "elm", "ash")) for page in later]
        self.assertEqual(told, [("due",), ("answer", 1), ("answer", 1), ("idle",)])
        late = in_order([("house", 5, "oak", ()), *book_of()])
        self.assertEqual(would(late, TERMS, 4, ("card", 6, "oak", "ash")), ("idle",))
        self.assertEqual(would(late, TERMS, 5, ("card", 6, "oak", "ash")), ("due",))

    def test_mourning_and_homes_that_are_known(self):
        for name in ("ash", "elm"):
            book = book_of(VISIT, ("mourn", 3, name, 3))
            self.assertEqual([would(book, TERMS, 3, ("visit", day, "elm", "ash")) for day in (3, 5, 6)],
                             [("due",), ("due",), ("answer", 1)])
            self.assertEqual(would(book, TERMS, 2, ("visit", 5, "elm", "ash")), ("answer", 1))
        book = book_of(VISIT, ("home", 3, "ash", (4,)))
        self.assertEqual([would(book, TERMS, 3, ("visit", day, "elm", "ash")) for day in (3, 4, 5, 11)],
                         [("due",), ("answer", 1), ("due",), ("answer", 1)])

    def test_houses_that_do_not_stand(self):
        book = book_of(("join", 3, "fern", "elm"))
        for page in (("card", 4, "elm", "ash"), ("card", 4, "ash", "elm"), ("visit", 4, "elm", "fern")):
            self.assertEqual(would(book, TERMS, 3, page), ("idle",))
            self.assertEqual(would(book, TERMS, 2, page), ("due",))
        # On the day of the joining a GOING stands behind it.
        self.assertEqual(would(book, TERMS, 3, ("card", 3, "elm", "ash")), ("idle",))

    def test_ahead_of_the_first_page(self):
        book = tuple((page[0], page[1] + 50) + page[2:] for page in book_of(CARD))
        for day, later in ((0, 0), (10, 60), (49, 50)):
            self.assertEqual(would(book, TERMS, day, ("card", later, "ash", "elm")), ("idle",))
        self.assertEqual(would(book, TERMS, 50, ("card", 450, "ash", "elm")), ("due",))

    def test_drawn_against_the_second_walk(self):
        rng = random.Random(323)
        met = {}
        for _ in range(250):
            book, terms, day = draw_walk_book(rng), draw_terms(rng), rng.randrange(35)
            page = draw_walk_page(rng, NAMES[:6], NAMES[:4], 1, GOINGS)
            owed = dues(book, terms, day)
            houses = rng.choice(owed)[:2] if owed and rng.random() < 0.6 else page[2:]
            page = (page[0], day + rng.choice((0, 0, 1, 3, 20))) + houses
            if page in book:
                continue
            kept = repr((book, page))
            told = would(book, terms, day, page)
            short = with_page(up_to(book, day), page)
            right = dict(Second(short, terms, page[1]).marked)[page]
            self.assertEqual(repr(told), repr(right))
            self.assertEqual(dict(marks(short, terms, page[1] + 9))[page], told)
            self.assertEqual(repr((book, page)), kept)
            met[told[0]] = met.get(told[0], 0) + 1
        self.assertEqual(sorted(met), ["answer", "due", "idle"])
        self.assertGreater(min(met.values()), 15, met)

    def test_what_would_come_comes(self):
        rng = random.Random(324)
        for _ in range(80):
            book, terms = draw_walk_book(rng, many=30), draw_terms(rng)
            page = rng.choice(book)
            if page[0] not in GOINGS:
                continue
            rest = tuple(one for one in book if one != page)
            self.assertEqual(would(rest, terms, page[1], page), dict(marks(book, terms, page[1]))[page])


if __name__ == "__main__":
    unittest.main()
