import random
import unittest

from cardsback.books import apart, both_books, is_book, up_to, with_page, without_page
from cardsback.errors import NoPage
from cardsback.pages import in_order, is_page, stands_ahead
from tests.things import ANY_THINGS, draw_book, draw_page, refusal, twice_varied, variants

HOUSE = ("house", 1, "ash", (0,))
PART = ("part", 3, "ash", "fern", ())
MOURN = ("mourn", 3, "ash", 2)
CARD = ("card", 3, "ash", "fern")
VISIT = ("visit", 8, "fern", "ash")
BOOK = (HOUSE, PART, MOURN, CARD, VISIT)


def is_book_by_pages(thing):
    if type(thing) is not tuple:
        return False
    return all(is_page(part) for part in thing) and repr(in_order(thing)) == repr(thing)


class IsBookTest(unittest.TestCase):
    def test_books(self):
        for book in ((), (HOUSE,), BOOK, BOOK[2:]):
            self.assertIs(is_book(book), True)

    def test_wrong(self):
        for thing in ([], [HOUSE], list(BOOK), (PART, HOUSE), (HOUSE, HOUSE), (CARD, MOURN), BOOK[::-1], HOUSE,
                      BOOK + (VISIT,), BOOK + (("visit", 8, "fern", "fern"),), (list(HOUSE),), (HOUSE, None),
                      (HOUSE, "visit"), {HOUSE: True}, (("house", True, "ash", ()),)):
            self.assertIs(is_book(thing), False, thing)

    def test_any_thing(self):
        for thing in ANY_THINGS:
            self.assertIs(is_book(thing), thing == (), repr(thing)[:60])

    def test_one_or_two_parts_changed(self):
        rng = random.Random(21)
        for book in (BOOK[:2], BOOK[1:4], BOOK):
            for thing in list(variants(book)) + list(twice_varied(rng, book, 40)):
                self.assertIs(is_book(thing), is_book_by_pages(thing), repr(thing)[:80])

    def test_however_many(self):
        pages = [("visit", day, "a", "b") for day in range(10000)]
        names = [chr(97 + j) + chr(97 + k) for j in range(26) for k in range(26)]
        self.assertIs(is_book(tuple(pages)), True)
        self.assertIs(is_book(tuple(pages[:500] + pages[499:])), False)
        self.assertIs(is_book(tuple(("house", 4, name, ()) for name in names)), True)


class TurnTest(unittest.TestCase):
    def test_with(self):
        self.assertEqual(with_page((), CARD), (CARD,))
        self.assertEqual(with_page((HOUSE, MOURN, VISIT), PART), (HOUSE, PART, MOURN, VISIT))
        self.assertEqual(with_page((HOUSE, MOURN), VISIT), (HOUSE, MOURN, VISIT))
        self.assertEqual(with_page((PART, MOURN), HOUSE), (HOUSE, PART, MOURN))

    def test_with_one_that_is_there(self):
        for page in BOOK:
            self.assertEqual(with_page(BOOK, page), BOOK)

    def test_without(self):
        self.assertEqual(without_page(BOOK, MOURN), (HOUSE, PART, CARD, VISIT))
        self.assertEqual(without_page(BOOK, HOUSE), BOOK[1:])
        self.assertEqual(without_page((HOUSE,), HOUSE), ())

    def test_without_one_that_is_not_there(self):
        for book in ((), BOOK[:3]):
            error = refusal(without_page, book, VISIT)
            self.assertIs(type(error), NoPage)
            self.assertIs(error.page, VISIT)

    def test_both(self):
        self.assertEqual(both_books((), ()), ())
        self.assertEqual(both_books(BOOK, ()), BOOK)
        self.assertEqual(both_books((HOUSE, CARD), (HOUSE, PART, VISIT)), (HOUSE, PART, CARD, VISIT))

    def test_up_to(self):
        for day, many in ((0, 0), (1, 1), (2, 1), (3, 4), (7, 4), (8, 5), (9, 5), (9999, 5)):
            self.assertEqual(up_to(BOOK, day), BOOK[:many], day)
        self.assertEqual(up_to((), 5), ())

    def test_apart(self):
        self.assertEqual(apart(BOOK, BOOK), ((), ()))
        self.assertEqual(apart((), ()), ((), ()))
        self.assertEqual(apart(BOOK, ()), (BOOK, ()))
        self.assertEqual(apart((), BOOK), ((), BOOK))
        self.assertEqual(apart((HOUSE, CARD, VISIT), (HOUSE, PART, MOURN)), ((CARD, VISIT), (PART, MOURN)))

    def test_drawn(self):
        rng = random.Random(22)
        for _ in range(80):
            one, other = draw_book(rng, days=6), draw_book(rng, days=6)
            kept = repr((one, other))
            page = draw_page(rng, days=6)
            self.check_one(one, page)
            self.check_two(one, other)
            day = rng.randrange(8)
            self.assertEqual(set(up_to(one, day)), {page for page in one if page[1] <= day})
            self.check_book(up_to(one, day))
            self.assertEqual(repr((one, other)), kept)

    def check_book(self, book):
        self.assertIs(type(book), tuple)
        self.assertTrue(is_book(book))

    def check_one(self, book, page):
        more = with_page(book, page)
        self.check_book(more)
        self.assertEqual(set(more), set(book) | {page})
        fewer = without_page(more, page)
        self.check_book(fewer)
        self.assertEqual(set(fewer), set(book) - {page})
        if page not in book:
            self.assertEqual(fewer, book)
            self.assertIs(refusal(without_page, book, page).page, page)

    def check_two(self, one, other):
        both = both_books(one, other)
        self.check_book(both)
        self.assertEqual(both, both_books(other, one))
        self.assertEqual(set(both), set(one) | set(other))
        told = apart(one, other)
        self.assertIs(type(told), tuple)
        first, second = told
        self.check_book(first)
        self.check_book(second)
        self.assertEqual((set(first), set(second)), (set(one) - set(other), set(other) - set(one)))
        self.assertEqual(apart(other, one), (second, first))

    def test_hangs_on_its_pages_alone(self):
        rng = random.Random(23)
        for _ in range(40):
            book = draw_book(rng, days=5)
            pages = list(book) + [rng.choice(book) for _ in range(8) if book]
            rng.shuffle(pages)
            elders = [()]
            for page in pages:
                elders.append(with_page(elders[-1], page))
            self.assertEqual(elders[-1], book)
            for k, elder in enumerate(elders):
                self.assertEqual(elder, in_order(pages[:k]))
            half = rng.randrange(len(pages) + 1)
            self.assertEqual(both_books(in_order(pages[half:]), in_order(pages[:half])), book)

    def test_pages_stand_by_days_kinds_and_then_as_sorted(self):
        told = with_page(with_page(with_page((), CARD), ("join", 3, "ash", "fern")), ("card", 3, "ash", "elm"))
        self.assertEqual(told, (("join", 3, "ash", "fern"), ("card", 3, "ash", "elm"), CARD))
        self.assertTrue(stands_ahead(told[0], told[1]))


if __name__ == "__main__":
    unittest.main()
