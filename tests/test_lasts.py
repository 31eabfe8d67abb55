import random
import unittest

from cardsback.books import up_to
from cardsback.errors import NoDue
from cardsback.lasts import last, left
from cardsback.walking import dues
from tests.secondwalk import Second, book_of, draw_terms, draw_walk_book, drawn_walks
from tests.things import put, refusal

VISIT = ("visit", 2, "ash", "elm")
CARD = ("card", 2, "ash", "elm")
TERMS = (5, 3)


def last_of_first(book, day, terms=TERMS):
    return last(book, terms, day, dues(book, terms, day)[0])


class LeftTest(unittest.TestCase):
    def test_by_falls_and_sort(self):
        for sort, falls, many in (("visit", (), 5), ("visit", (3,), 4), ("visit", (3, 4, 6, 9, 90), 0), ("card", (), 3),
                                  ("card", (3, 9), 1), ("card", (3, 9, 10), 0)):
            self.assertEqual(left(TERMS, ("elm", "ash", sort, VISIT, falls)), many)

    def test_the_sort_counts_not_the_kind_of_the_page(self):
        self.assertEqual(left((60, 1), ("elm", "ash", "card", VISIT, ())), 1)
        self.assertEqual(left((60, 1), ("elm", "ash", "visit", VISIT, (3,))), 59)
        self.assertEqual(left((1, 60), ("elm", "ash", "card", CARD, (3, 4))), 58)


class LastTest(unittest.TestCase):
    def test_without_mourning(self):
        book = book_of(VISIT)
        for day in (2, 3, 4, 5, 6):
            self.assertEqual(last_of_first(book, day), 7)
        self.assertEqual(last_of_first(book_of(CARD), 2), 5)
        self.assertEqual(last_of_first(book, 2, (1, 60)), 3)
        self.assertEqual(last_of_first(book, 2, (60, 1)), 62)

    def test_mourning_that_is_known(self):
        for name in ("ash", "elm"):
            book = book_of(VISIT, ("mourn", 4, name, 3))
            self.assertEqual(last_of_first(book, 3), 7, name)
            self.assertEqual(last_of_first(book, 4), 10, name)
            self.assertEqual(last_of_first(book, 6), 10, name)
            self.assertEqual(last_of_first(book, 9), 10, name)
        book = book_of(VISIT, ("mourn", 4, "fern", 3))
        self.assertEqual(last_of_first(book, 4), 7)

    def test_both_mourn(self):
        book = book_of(VISIT, ("mourn", 3, "ash", 3), ("mourn", 4, "elm", 4), ("mourn", 3, "elm", 1))
        self.assertEqual(last_of_first(book, 4), 12)
        self.assertEqual(last_of_first(book, 3), 10)

    def test_the_last_day_of_mourning(self):
        book = book_of(VISIT, ("mourn", 6, "ash", 1), ("mourn", 7, "elm", 60))
        self.assertEqual(last_of_first(book, 5), 7)
        self.assertEqual(last_of_first(book, 6), 8)
        self.assertEqual(last_of_first(book, 7), 68)

    def test_what_is_told_later_is_not_known(self):
        book = book_of(VISIT, ("mourn", 5, "ash", 9), ("visit", 6, "elm", "ash"))
        self.assertEqual(last_of_first(book, 4), 7)

    def test_above_all_days(self):
        shifted = tuple((page[0], page[1] + 9995) + page[2:] for page in book_of(VISIT, ("mourn", 4, "elm", 10)))
        self.assertEqual(last_of_first(shifted, 9998), 10002)
        self.assertEqual(last_of_first(shifted, 9999), 10012)
        self.assertEqual(last_of_first(shifted, 9999, (60, 60)), 10067)

    def test_one_of_several(self):
        book = book_of(VISIT, ("card", 3, "ash", "elm"), ("part", 4, "elm", "oak", ()), ("mourn", 4, "oak", 3))
        lasts = [last(book, TERMS, 4, due) for due in dues(book, TERMS, 4)]
        self.assertEqual(lasts, [7, 6, 10, 9])


class NoDueTest(unittest.TestCase):
    def check_none(self, book, day, due, terms=TERMS):
        error = refusal(last, book, terms, day, due)
        self.assertIs(type(error), NoDue)
        self.assertIs(error.due, due)

    def test_one_that_does_not_stand(self):
        book = book_of(VISIT, ("visit", 5, "elm", "ash"))
        due = ("elm", "ash", "visit", VISIT, ())
        self.check_none((), 2, due)
        self.check_none(book, 1, due)
        self.assertEqual(last(book, TERMS, 2, due), 7)
        self.check_none(book, 3, due)
        self.check_none(book, 5, ("elm", "ash", "visit", VISIT, (3, 4)))
        self.check_none(book, 5, ("elm", "ash", "visit", VISIT, (3, 4, 5)))

    def test_each_part_otherwise(self):
        book = book_of(VISIT, ("card", 2, "ash", "fern"))
        due = ("elm", "ash", "visit", VISIT, (3, 4))
        self.assertEqual(last(book, TERMS, 4, due), 7)
        for k, part in ((0, "fern"), (0, "ash"), (1, "fern"), (1, "elm"), (2, "card"), (3, CARD),
                        (3, ("visit", 1, "ash", "elm")), (3, ("visit", 2, "ash", "fern")), (4, ()), (4, (3,)),
                        (4, (3, 5)), (4, (3, 4, 5)), (4, (4, 5))):
            self.check_none(book, 4, put(due, k, part))

    def test_a_rude_one(self):
        book = book_of(VISIT)
        due = dues(book, TERMS, 7)[0]
        self.assertEqual(due[4], (3, 4, 5, 6, 7))
        self.check_none(book, 7, due)
        self.check_none(book, 8, due)
        self.assertEqual(last(book, (6, 1), 7, due), 8)

    def test_with_more_falls_than_left(self):
        self.check_none(book_of(VISIT), 9, ("elm", "ash", "visit", VISIT, (3, 4, 5, 6, 7, 8)))


class DrawnTest(unittest.TestCase):
    def test_against_the_second_walk(self):
        met = {"last": 0, "rude": 0, "later": 0}
        for book, terms, day in drawn_walks(71, 250):
            kept = repr(book)
            second = Second(book, terms, day)
            for due in dues(book, terms, day):
                self.assertEqual(left(terms, due), second.left(due))
                if second.left(due) == 0:
                    self.assertIs(type(refusal(last, book, terms, day, due)), NoDue)
                    met["rude"] += 1
                    continue
                told = last(book, terms, day, due)
                self.assertIs(type(told), int)
                self.assertEqual(told, second.last(day, due))
                self.assertEqual(last(up_to(book, day), terms, day, due), told)
                met["last"] += 1
                met["later"] += told > day + left(terms, due)
            self.assertEqual(repr(book), kept)
        self.assertGreater(min(met.values()), 20, met)

    def test_dues_of_other_books_and_days(self):
        rng = random.Random(72)
        for _ in range(100):
            book, terms = draw_walk_book(rng), draw_terms(rng)
            day, other = rng.randrange(35), rng.randrange(35)
            here = dues(book, terms, day)
            for due in dues(book, terms, other):
                stands = due in here and left(terms, due) > 0
                self.assertEqual(refusal(last, book, terms, day, due) is None, stands)

    def test_rude_from_the_last_on_where_nothing_is_told(self):
        for book, terms, day in drawn_walks(73, 120):
            short = up_to(book, day)
            for due in dues(book, terms, day):
                if left(terms, due) == 0:
                    continue
                end = last(book, terms, day, due)
                for later in range(day, end + 3):
                    now = [one for one in dues(short, terms, later) if one[:4] == due[:4]]
                    self.assertEqual([left(terms, one) == 0 for one in now], [later >= end])


if __name__ == "__main__":
    unittest.main()
