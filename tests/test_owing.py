import random
import unittest

from cardsback.books import up_to
from cardsback.errors import NoHouse
from cardsback.owing import matters, owes, sums
from cardsback.pages import in_order
from cardsback.walking import dues
from tests.secondwalk import GOING, WEEK, Second, book_of, draw_terms, draw_walk_book, drawn_walks
from tests.things import NAMES, refusal

TERMS = (5, 3)
CARD, VISIT = ("card", 1, "ash", "elm"), ("visit", 2, "ash", "elm")


class OwesTest(unittest.TestCase):
    def test_as_dues_tell_them(self):
        pages = [VISIT, CARD, ("visit", 1, "ash", "elm"), ("card", 2, "fern", "elm"), ("card", 3, "elm", "ash")]
        book = book_of(*pages)
        self.assertEqual(owes(book, TERMS, 2, "elm", "ash"), [
            ("elm", "ash", "card", CARD, (2,)), ("elm", "ash", "visit", pages[2], (2,)),
            ("elm", "ash", "visit", VISIT, ())])
        self.assertEqual(owes(book, TERMS, 3, "elm", "ash"), [
            ("elm", "ash", "visit", pages[2], (2, 3)), ("elm", "ash", "visit", VISIT, (3,))])
        self.assertEqual(owes(book, TERMS, 3, "ash", "elm"), [])
        self.assertEqual(owes(book, TERMS, 3, "elm", "fern"), [("elm", "fern", "card", pages[3], (3,))])

    def test_as_pages_stand_not_as_they_came_to_be_owed(self):
        # oak's copy of what elm owes came behind what fern owes, and goes to fern with oak.
        book = book_of(CARD, ("card", 2, "ash", "fern"), ("part", 3, "elm", "oak", ()), ("join", 4, "fern", "oak"))
        self.assertEqual(owes(book, TERMS, 4, "fern", "ash"), [
            ("fern", "ash", "card", CARD, (2, 3, 4)), ("fern", "ash", "card", ("card", 2, "ash", "fern"), (3, 4))])

    def test_both_owe_one_another(self):
        book = book_of(("visit", 1, "ash", "elm"), ("card", 2, "elm", "ash"))
        self.assertEqual(len(owes(book, TERMS, 2, "elm", "ash")), 1)
        self.assertEqual(len(owes(book, TERMS, 2, "ash", "elm")), 1)

    def test_one_alone(self):
        self.assertEqual(owes(book_of(CARD), TERMS, 4, "elm", "elm"), [])
        self.assertEqual(owes(book_of(CARD, ("join", 3, "ash", "elm")), TERMS, 4, "ash", "ash"), [])

    def test_no_house(self):
        book = book_of(CARD, ("join", 3, "fern", "elm"))
        for a, b, name in (("elm", "ash", "elm"), ("ash", "elm", "elm"), ("elm", "oak", "elm"), ("oak", "elm", "oak"),
                           ("oak", "oak", "oak"), ("ash", "oak", "oak"), ("oak", "ash", "oak")):
            error = refusal(owes, book, TERMS, 3, a, b)
            self.assertIs(type(error), NoHouse)
            self.assertEqual(error.name, name)
        self.assertEqual(refusal(owes, (), TERMS, 0, "ash", "elm").name, "ash")
        self.assertEqual(len(owes(book, TERMS, 3, "fern", "ash")), 1)

    def test_the_list_is_the_askers_own(self):
        told = owes(book_of(CARD), TERMS, 1, "elm", "ash")
        told.clear()
        self.assertEqual(len(owes(book_of(CARD), TERMS, 1, "elm", "ash")), 1)


class MattersTest(unittest.TestCase):
    def test_how_many(self):
        book = book_of(CARD, VISIT, ("card", 2, "ash", "elm"), ("visit", 2, "fern", "elm"), ("visit", 3, "fern", "ash"),
                       ("card", 4, "elm", "fern"), ("visit", 5, "elm", "ash"))
        self.assertEqual(matters(book, TERMS, 0), [])
        self.assertEqual(matters(book, TERMS, 1), [("elm", "ash", 1)])
        self.assertEqual(matters(book, TERMS, 2), [("elm", "ash", 3), ("elm", "fern", 1)])
        self.assertEqual(matters(book, TERMS, 3), [("ash", "fern", 1), ("elm", "ash", 3), ("elm", "fern", 1)])
        self.assertEqual(matters(book, TERMS, 4),
                         [("ash", "fern", 1), ("elm", "ash", 3), ("elm", "fern", 1), ("fern", "elm", 1)])
        self.assertEqual(matters(book, TERMS, 5), [("ash", "fern", 1), ("elm", "fern", 1), ("fern", "elm", 1)])

    def test_none(self):
        self.assertEqual(matters((), TERMS, 7), [])

    def test_rude_ones_count(self):
        self.assertEqual(matters(book_of(CARD, VISIT), TERMS, 90), [("elm", "ash", 2)])


class SumsTest(unittest.TestCase):
    def test_none(self):
        self.assertEqual(sums((), TERMS, 5), (0, 0, 0, 0, 0, 0))
        self.assertEqual(sums(book_of(CARD), TERMS, 0), (0, 0, 0, 0, 0, 0))

    def test_made(self):
        self.assertEqual(sums(book_of(CARD), TERMS, 1), (1, 0, 1, 0, 0, 0))
        self.assertEqual(sums(book_of(CARD, VISIT), TERMS, 9), (2, 0, 2, 0, 0, 0))
        self.assertEqual(sums(book_of(CARD, ("visit", 2, "oak", "elm")), TERMS, 9), (1, 0, 1, 0, 0, 0))

    def test_copied(self):
        book = book_of(CARD, VISIT, ("part", 4, "elm", "oak", ()), ("part", 5, "oak", "birch", ()))
        self.assertEqual(sums(book, TERMS, 3), (2, 0, 2, 0, 0, 0))
        self.assertEqual(sums(book, TERMS, 4), (2, 2, 4, 0, 0, 0))
        self.assertEqual(sums(book, TERMS, 5), (2, 4, 6, 0, 0, 0))

    def test_answered(self):
        self.assertEqual(sums(book_of(CARD, ("card", 2, "elm", "ash")), TERMS, 2), (1, 0, 0, 1, 0, 0))
        self.assertEqual(sums(book_of(CARD, VISIT, ("visit", 3, "elm", "ash")), TERMS, 3), (2, 0, 0, 2, 0, 0))

    def test_struck(self):
        book = book_of(("visit", 1, "ash", "elm"), ("card", 2, "elm", "ash"), ("join", 3, "ash", "elm"))
        self.assertEqual(sums(book, TERMS, 2), (2, 0, 2, 0, 0, 0))
        self.assertEqual(sums(book, TERMS, 3), (2, 0, 0, 0, 2, 0))

    def test_one(self):
        book = book_of(CARD, VISIT, ("part", 3, "elm", "oak", ()), ("join", 4, "elm", "oak"))
        self.assertEqual(sums(book, TERMS, 4), (2, 2, 2, 0, 0, 2))

    def test_copies_that_are_answered(self):
        book = book_of(CARD, ("part", 2, "elm", "oak", ()), ("card", 3, "oak", "ash"))
        self.assertEqual(sums(book, TERMS, 3), (1, 1, 1, 1, 0, 0))

    def test_copies_that_are_struck(self):
        book = book_of(CARD, ("part", 2, "elm", "oak", ()), ("join", 3, "ash", "oak"))
        self.assertEqual(sums(book, TERMS, 3), (1, 1, 1, 0, 1, 0))

    def test_all_at_once(self):
        book = book_of(CARD, VISIT, ("card", 2, "fern", "elm"), ("part", 3, "elm", "oak", ()),
                       ("card", 4, "oak", "ash"), ("join", 5, "elm", "oak"), ("join", 6, "elm", "fern"))
        self.assertEqual(sums(book, TERMS, 3), (3, 3, 6, 0, 0, 0))
        self.assertEqual(sums(book, TERMS, 4), (3, 3, 5, 1, 0, 0))
        self.assertEqual(sums(book, TERMS, 5), (3, 3, 3, 1, 0, 2))
        self.assertEqual(sums(book, TERMS, 6), (3, 3, 2, 1, 1, 2))


class DrawnTest(unittest.TestCase):
    def test_against_the_second_walk(self):
        total = [0] * 6
        for book, terms, day in drawn_walks(211, 250):
            kept = repr(book)
            second = Second(book, terms, day)
            rows = second.dues()
            pairs = [due[:2] for due in rows]
            right = [(a, b, pairs.count((a, b))) for a, b in sorted(set(pairs))]
            self.assertEqual(repr(matters(book, terms, day)), repr(right))
            told = sums(book, terms, day)
            self.assertEqual(repr(told), repr(second.sums()))
            made, copied, *others = told
            self.assertEqual(made + copied, sum(others))
            self.assertEqual(sums(up_to(book, day), terms, day), told)
            total = [one + two for one, two in zip(total, told)]
            self.assertEqual(repr(book), kept)
        self.assertGreater(min(total), 40, total)

    def test_owes_is_dues_by_pairs(self):
        rng = random.Random(212)
        for _ in range(60):
            book, terms, day = draw_walk_book(rng), draw_terms(rng), rng.randrange(40)
            rows, homes = Second(book, terms, day).dues(), Second(book, terms, day).homes
            for a in NAMES[:6]:
                for b in NAMES[:6]:
                    lacks = [name for name in (a, b) if name not in homes]
                    if lacks:
                        self.assertEqual(refusal(owes, book, terms, day, a, b).name, lacks[0])
                    else:
                        right = [due for due in rows if due[:2] == (a, b)]
                        self.assertEqual(repr(owes(book, terms, day, a, b)), repr(right))

    def test_with_met_visits_alone_no_two_owe_one_another(self):
        rng = random.Random(213)
        owed = 0
        for _ in range(60):
            # Everybody is always at home, and nobody mourns: each visit is MET.
            names = NAMES[:4]
            visits = [("visit", rng.randrange(1, 30)) + tuple(rng.sample(names, 2)) for _ in range(rng.randrange(50))]
            book = in_order([("house", 0, name, WEEK) for name in names] + visits)
            terms = draw_terms(rng)
            for day in range(0, 33, 2):
                pairs = {due[:2] for due in dues(book, terms, day)}
                owed += len(pairs)
                self.assertFalse([pair for pair in pairs if pair[::-1] in pairs])
        self.assertGreater(owed, 500)

    def test_with_cards_some_owe_one_another(self):
        both = 0
        for book, terms, day in drawn_walks(214, 60, kinds=GOING):
            pairs = {(a, b) for a, b, many in matters(book, terms, day)}
            both += any(pair[::-1] in pairs for pair in pairs)
        self.assertGreater(both, 5)


if __name__ == "__main__":
    unittest.main()
