import random
import unittest

from cardsback.errors import NoPaper
from cardsback.pages import is_page
from cardsback.rudechecker import lets_rude
from cardsback.rudes import rude_papers
from cardsback.walking import dues
from tests.secondwalk import Second, book_of, draw_walk_book, drawn_walks
from tests.things import ANY_THINGS, changed, outcome, put, refusal, twice_varied, variants

TERMS = (5, 3)
CARD, VISIT = ("card", 1, "ash", "elm"), ("visit", 2, "ash", "elm")
BOOK = book_of(CARD, VISIT)
PAPER = ("elm", "ash", CARD, (2, 3, 4))


def is_small(text):
    return type(text) is str and 1 <= len(text) <= 8 and all(sign in "abcdefghijklmnopqrstuvwxyz" for sign in text)


def has_shape(thing):
    if type(thing) is not tuple or len(thing) != 4 or not is_small(thing[0]) or not is_small(thing[1]):
        return False
    if not is_page(thing[2]) or thing[2][0] not in ("card", "visit") or type(thing[3]) is not tuple:
        return False
    days = thing[3]
    return all(type(day) is int and 0 <= day <= 9999 for day in days) and list(days) == sorted(set(days))


def rude_outcome(second, thing):
    """What lets_rude has to tell, by the second walk."""
    if not has_shape(thing):
        word = "shape"
    elif thing[:3] not in second.kept:
        word = "due"
    else:
        sort, falls = second.kept[thing[:3]]
        if falls == thing[3] and len(falls) == second.terms[sort]:
            return "True"
        word = "few" if falls == thing[3] else "days"
    return f"NoPaper {{'word': '{word}', 'path': ()}}"


class LetsRudeTest(unittest.TestCase):
    def check(self, thing, word, book=BOOK, day=9, terms=TERMS):
        error = refusal(lets_rude, book, terms, day, thing)
        self.assertIs(type(error), NoPaper)
        self.assertEqual(repr((error.word, error.path)), repr((word, ())))

    def test_let_by(self):
        for day in (4, 5, 400):
            self.assertIs(lets_rude(BOOK, TERMS, day, PAPER), True)
        self.assertIs(lets_rude(BOOK, TERMS, 7, ("elm", "ash", VISIT, (3, 4, 5, 6, 7))), True)

    def test_shape(self):
        for thing in ((), None, True, PAPER[:3], PAPER + ((),), list(PAPER), ("Elm",) + PAPER[1:], "elm", {}, [PAPER],
                      (PAPER,), put(PAPER, 0, None), put(PAPER, 1, ""), put(PAPER, 1, "abcdefghi"),
                      put(PAPER, 2, ("mourn", 1, "ash", 3)), put(PAPER, 2, ("ahead", 1, "ash", "elm")),
                      put(PAPER, 2, list(CARD)), put(PAPER, 2, CARD[:3]), put(PAPER, 2, ("card", 1, "ash", "ash")),
                      put(PAPER, 2, ("card", 10000, "ash", "elm")), put(PAPER, 2, None)):
            self.check(thing, "shape")

    def test_shape_of_the_falls(self):
        for falls in ([2, 3, 4], (2, 4, 3), (2, 2, 3), (4, 3, 2), (2, 3, 10000), (-1, 3, 4), (2, 3, "4"), (2, 3, None),
                      None, 2, ((2, 3, 4),), (2, 3, 4, True)):
            self.check(put(PAPER, 3, falls), "shape")

    def test_truths_for_numbers(self):
        book = book_of(("card", 0, "ash", "elm"))
        paper = ("elm", "ash", ("card", 0, "ash", "elm"), (1, 2, 3))
        self.assertIs(lets_rude(book, TERMS, 9, paper), True)
        self.check(put(paper, 3, (True, 2, 3)), "shape", book)
        self.check(put(paper, 2, ("card", False, "ash", "elm")), "shape", book)

    def test_due(self):
        for k, part in ((0, "fern"), (1, "fern"), (0, "ash"), (1, "elm"), (2, ("card", 2, "ash", "elm")),
                        (2, ("visit", 1, "ash", "elm")), (2, ("card", 1, "elm", "ash")), (0, "never")):
            self.check(put(PAPER, k, part), "due")
        self.check(("ash", "elm") + PAPER[2:], "due")
        self.check(PAPER, "due", ())
        self.check(PAPER, "due", book_of(VISIT))

    def test_a_paper_of_another_day(self):
        self.check(PAPER, "due", BOOK, 0)
        self.check(PAPER, "days", BOOK, 1)
        self.check(PAPER, "days", BOOK, 3)
        self.check(PAPER, "due", book_of(CARD, ("card", 6, "elm", "ash")), 6)
        self.assertIs(lets_rude(book_of(CARD, ("card", 6, "elm", "ash")), TERMS, 5, PAPER), True)

    def test_days(self):
        for falls in ((), (2,), (2, 3), (2, 3, 5), (3, 4, 5), (2, 3, 4, 5), (1, 2, 3)):
            self.check(put(PAPER, 3, falls), "days")

    def test_one_fall_short_of_its_term(self):
        self.check(put(PAPER, 3, (2, 3)), "few", BOOK, 3)
        self.check(put(PAPER, 3, ()), "few", BOOK, 1)
        self.check(("elm", "ash", VISIT, (3, 4, 5, 6)), "few", BOOK, 6)
        self.check(PAPER, "few", BOOK, 4, (3, 4))
        self.assertIs(lets_rude(BOOK, (3, 4), 5, put(PAPER, 3, (2, 3, 4, 5))), True)

    def test_which_comes_first(self):
        self.check(("never", "ash", CARD, [2]), "shape")
        self.check(("never", "ash", CARD, ()), "due", BOOK, 3)
        self.check(put(PAPER, 3, (2,)), "days", BOOK, 3)

    def test_mourning(self):
        book = book_of(CARD, ("mourn", 3, "elm", 4))
        self.check(PAPER, "days", book)
        self.assertIs(lets_rude(book, TERMS, 9, put(PAPER, 3, (2, 7, 8))), True)

    def test_houses_put_in_the_place_of_others(self):
        book = book_of(CARD, ("join", 3, "fern", "elm"))
        self.check(PAPER, "due", book)
        self.assertIs(lets_rude(book, TERMS, 9, put(PAPER, 0, "fern")), True)

    def test_any_thing(self):
        for book in ((), BOOK):
            second = Second(book, TERMS, 9)
            for thing in ANY_THINGS:
                self.assertEqual(outcome(lets_rude, book, TERMS, 9, thing), rude_outcome(second, thing))

    def test_things_of_every_kind_in_every_place(self):
        rng = random.Random(331)
        second = Second(BOOK, TERMS, 9)
        for paper in (PAPER, ("elm", "ash", VISIT, (3, 4, 5, 6, 7))):
            for thing in list(variants(paper)) + list(twice_varied(rng, paper, 100)):
                kept = repr(thing)
                self.assertEqual(outcome(lets_rude, BOOK, TERMS, 9, thing), rude_outcome(second, thing))
                self.assertEqual(repr(thing), kept)


class DrawnTest(unittest.TestCase):
    def test_each_told_rude_paper_is_let_by(self):
        told = 0
        for book, terms, day in drawn_walks(332, 150):
            kept = repr(book)
            for paper in rude_papers(book, terms, day):
                self.assertIs(lets_rude(book, terms, day, paper), True)
                told += 1
            self.assertEqual(repr(book), kept)
        self.assertGreater(told, 100)

    def test_papers_of_all_dues_of_other_days_and_changed(self):
        rng = random.Random(333)
        met = {}
        for book, terms, day in drawn_walks(334, 120):
            other = rng.choice((day, day, max(day - 1, 0), day + 1, rng.randrange(40)))
            second = Second(book, terms, day)
            for ower, owed, sort, page, falls in dues(book, terms, other):
                for thing in [(ower, owed, page, falls)] + [changed(rng, (ower, owed, page, falls)) for _ in range(4)]:
                    right = rude_outcome(second, thing)
                    self.assertEqual(outcome(lets_rude, book, terms, day, thing), right)
                    met[right] = met.get(right, 0) + 1
        self.assertEqual(len(met), 5, met)
        self.assertGreater(min(met.values()), 20, met)

    def test_what_is_let_by_is_so_whoever_wrote_it(self):
        rng = random.Random(335)
        for _ in range(20):
            book, terms, day = draw_walk_book(rng, many=30), (3, 2), rng.randrange(6, 30)
            told = rude_papers(book, terms, day)
            for ower, owed, sort, page, falls in dues(book, terms, day):
                for some in (falls, falls[:-1], tuple(range(page[1] + 1, day + 1))[-2:]):
                    paper = (ower, owed, page, some)
                    self.assertEqual(refusal(lets_rude, book, terms, day, paper) is None, paper in told)


if __name__ == "__main__":
    unittest.main()
