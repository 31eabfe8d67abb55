import unittest

from cardsback.books import up_to
from cardsback.rudes import rude, rude_papers
from cardsback.walking import marks
from tests.secondwalk import Second, book_of, drawn_walks

TERMS = (5, 3)
CARD, VISIT = ("card", 1, "ash", "elm"), ("visit", 2, "ash", "elm")


class RudeTest(unittest.TestCase):
    def test_nobody(self):
        for function in (rude, rude_papers):
            self.assertEqual(function((), TERMS, 9), [])
            self.assertEqual(function(book_of(), TERMS, 9), [])
            self.assertEqual(function(book_of(CARD), TERMS, 0), [])

    def test_one_fall_short_of_the_term(self):
        book = book_of(CARD, VISIT)
        for function in (rude, rude_papers):
            self.assertEqual(function(book, TERMS, 3), [])
        self.assertEqual(rude(book, TERMS, 4), [("elm", "ash", CARD, 4)])
        self.assertEqual(rude_papers(book, TERMS, 4), [("elm", "ash", CARD, (2, 3, 4))])
        self.assertEqual(rude(book, TERMS, 6), [("elm", "ash", CARD, 4)])
        for day in (7, 8, 400):
            self.assertEqual(rude(book, TERMS, day), [("elm", "ash", CARD, 4), ("elm", "ash", VISIT, 7)])
            self.assertEqual(rude_papers(book, TERMS, day),
                             [("elm", "ash", CARD, (2, 3, 4)), ("elm", "ash", VISIT, (3, 4, 5, 6, 7))])

    def test_the_last_one_of_the_falls(self):
        book = book_of(CARD, ("mourn", 3, "elm", 4))
        self.assertEqual(rude(book, TERMS, 7), [])
        self.assertEqual(rude(book, TERMS, 20), [("elm", "ash", CARD, 8)])
        self.assertEqual(rude_papers(book, TERMS, 20), [("elm", "ash", CARD, (2, 7, 8))])
        self.assertEqual(rude(book_of(CARD), (9, 1), 20), [("elm", "ash", CARD, 2)])

    def test_in_the_order_of_dues(self):
        pages = [("card", 4, "elm", "ash"), ("card", 3, "fern", "ash"), ("card", 2, "elm", "ash"),
                 ("card", 1, "ash", "fern"), ("card", 2, "elm", "fern"), ("visit", 2, "elm", "ash")]
        told = rude(book_of(*pages), (1, 1), 30)
        self.assertEqual([row[:3] for row in told], [
            ("ash", "elm", pages[2]), ("ash", "elm", pages[5]), ("ash", "elm", pages[0]),
            ("fern", "elm", pages[4])])
        self.assertEqual([row[:3] for row in rude_papers(book_of(*pages), (1, 1), 30)], [row[:3] for row in told])

    def test_an_answered_one_is_told_no_more(self):
        book = book_of(CARD, ("card", 9, "elm", "ash"))
        self.assertEqual(rude(book, TERMS, 8), [("elm", "ash", CARD, 4)])
        self.assertEqual(rude(book, TERMS, 9), [])

    def test_the_lists_are_the_askers_own(self):
        for function in (rude, rude_papers):
            told = function(book_of(CARD), TERMS, 9)
            told.clear()
            self.assertEqual(len(function(book_of(CARD), TERMS, 9)), 1)


class DrawnTest(unittest.TestCase):
    def test_against_the_second_walk(self):
        met = {"rude": 0, "not": 0}
        for book, terms, day in drawn_walks(221, 250):
            kept = repr(book)
            second = Second(book, terms, day)
            rows = [due for due in second.dues() if second.left(due) == 0]
            met["rude"] += len(rows)
            met["not"] += len(second.dues()) - len(rows)
            papers = [(due[0], due[1], due[3], due[4]) for due in rows]
            self.assertEqual(repr(rude_papers(book, terms, day)), repr(papers))
            self.assertEqual(repr(rude(book, terms, day)), repr([row[:3] + (max(row[3]),) for row in papers]))
            self.assertEqual(rude(up_to(book, day), terms, day), rude(book, terms, day))
            self.assertEqual(repr(book), kept)
        self.assertGreater(min(met.values()), 100, met)

    def test_with_the_going_and_the_days_that_fell(self):
        for book, terms, day in drawn_walks(222, 100):
            told = dict(marks(book, terms, day))
            for ower, owed, page, falls in rude_papers(book, terms, day):
                self.assertEqual(told[page], ("due",))
                self.assertIn(len(falls), terms)
                self.assertEqual(list(falls), sorted(set(falls)))
                self.assertTrue(page[1] < falls[0] and falls[-1] <= day)


if __name__ == "__main__":
    unittest.main()
