import random
import unittest

from cardsback.books import up_to
from cardsback.errors import NoHouse
from cardsback.lasts import last
from cardsback.pages import in_order
from cardsback.soon import first_rude, soon
from cardsback.walking import dues
from tests.secondwalk import Second, book_of, draw_terms, draw_walk_book, drawn_walks
from tests.things import NAMES, outcome, refusal

TERMS = (5, 3)
CARD, VISIT = ("card", 2, "ash", "elm"), ("visit", 2, "ash", "elm")


def owed(page, sort, *falls):
    return (page[3], page[2], sort, page, falls)


class SoonTest(unittest.TestCase):
    def test_nothing(self):
        self.assertEqual(soon(book_of(), TERMS, 3, "ash", 28), [])
        self.assertEqual(soon(book_of(CARD), TERMS, 3, "ash", 28), [])
        self.assertEqual(soon(book_of(CARD), TERMS, 1, "elm", 28), [])

    def test_by_last(self):
        other = ("card", 3, "fern", "elm")
        book = book_of(VISIT, CARD, other)
        self.assertEqual(soon(book, TERMS, 4, "elm", 28), [
            (5, owed(CARD, "card", 3, 4)), (6, owed(other, "card", 4)), (7, owed(VISIT, "visit", 3, 4))])

    def test_of_one_last_in_the_order_of_dues(self):
        pages = [("card", 2, "fern", "elm"), ("visit", 2, "fern", "elm"), ("card", 2, "ash", "elm"),
                 ("visit", 2, "ash", "elm"), ("card", 1, "ash", "elm"), ("mourn", 2, "ash", 1)]
        book = book_of(*pages)
        told = soon(book, (4, 4), 3, "elm", 28)
        self.assertEqual([pair[0] for pair in told], [6] * 5)
        self.assertEqual([due for end, due in told], dues(book, (4, 4), 3))
        self.assertEqual([due[3] for end, due in told], [pages[4], pages[2], pages[3], pages[0], pages[1]])

    def test_a_last_just_within_and_just_beyond(self):
        book = book_of(VISIT, CARD)
        for far, many in ((1, 0), (2, 1), (3, 1), (4, 2), (28, 2)):
            self.assertEqual(len(soon(book, TERMS, 3, "elm", far)), many, far)
        self.assertEqual(soon(book, TERMS, 3, "elm", 2), [(5, owed(CARD, "card", 3))])

    def test_mourning_that_is_known(self):
        book = book_of(VISIT, CARD, ("mourn", 3, "elm", 5))
        self.assertEqual(soon(book, TERMS, 2, "elm", 28), [(5, owed(CARD, "card")), (7, owed(VISIT, "visit"))])
        self.assertEqual(soon(book, TERMS, 3, "elm", 28), [(10, owed(CARD, "card")), (12, owed(VISIT, "visit"))])
        self.assertEqual(soon(book, TERMS, 3, "elm", 6), [])
        self.assertEqual(len(soon(book, TERMS, 3, "elm", 7)), 1)

    def test_rude_ones_are_left_out(self):
        book = book_of(VISIT, CARD)
        self.assertEqual(soon(book, TERMS, 5, "elm", 28), [(7, owed(VISIT, "visit", 3, 4, 5))])
        self.assertEqual(soon(book, TERMS, 7, "elm", 28), [])

    def test_the_owers_own_alone(self):
        book = book_of(CARD, ("card", 2, "elm", "fern"))
        self.assertEqual([due[0] for end, due in soon(book, TERMS, 2, "elm", 28)], ["elm"])
        self.assertEqual([due[0] for end, due in soon(book, TERMS, 2, "fern", 28)], ["fern"])
        parted = book_of(CARD, ("part", 3, "elm", "oak", ()), ("mourn", 3, "oak", 2))
        self.assertEqual(soon(parted, TERMS, 3, "oak", 28), [(7, ("oak", "ash", "card", CARD, ()))])
        self.assertEqual(soon(parted, TERMS, 3, "elm", 28), [(5, ("elm", "ash", "card", CARD, (3,)))])

    def test_lasts_above_all_days(self):
        shifted = tuple((page[0], page[1] + 9996) + page[2:] for page in book_of(VISIT, CARD, ("mourn", 3, "elm", 9)))
        visit, card = ("visit", 9998, "ash", "elm"), ("card", 9998, "ash", "elm")
        self.assertEqual(soon(shifted, TERMS, 9998, "elm", 28),
                         [(10001, owed(card, "card")), (10003, owed(visit, "visit"))])
        self.assertEqual(soon(shifted, TERMS, 9999, "elm", 11), [(10010, owed(card, "card"))])
        self.assertEqual(soon(shifted, TERMS, 9999, "elm", 10), [])
        self.assertEqual(first_rude(shifted, TERMS, 9999), (10010, owed(card, "card")))

    def test_no_house(self):
        book = book_of(CARD, ("join", 4, "fern", "elm"))
        for day, name in ((4, "elm"), (9, "elm"), (3, "oak"), (3, "el")):
            error = refusal(soon, book, TERMS, day, name, 28)
            self.assertIs(type(error), NoHouse)
            self.assertEqual(vars(error), {"name": name})
        self.assertEqual(refusal(soon, (), TERMS, 0, "elm", 1).name, "elm")
        self.assertEqual(soon(book, TERMS, 4, "fern", 28), [(5, ("fern", "ash", "card", CARD, (3, 4)))])

    def test_the_list_is_the_askers_own(self):
        told = soon(book_of(CARD), TERMS, 3, "elm", 28)
        told.clear()
        self.assertEqual(len(soon(book_of(CARD), TERMS, 3, "elm", 28)), 1)


class FirstRudeTest(unittest.TestCase):
    def test_none(self):
        self.assertIsNone(first_rude((), TERMS, 9))
        self.assertIsNone(first_rude(book_of(), TERMS, 9))
        self.assertIsNone(first_rude(book_of(CARD), TERMS, 1))
        # Whoever is RUDE is so already.
        self.assertIsNone(first_rude(book_of(CARD, VISIT), TERMS, 7))

    def test_of_all_houses(self):
        pages = [("visit", 2, "ash", "elm"), ("card", 3, "elm", "fern"), ("visit", 1, "fern", "ash")]
        book = book_of(*pages)
        self.assertEqual(first_rude(book, TERMS, 3), (6, owed(pages[2], "visit", 2, 3)))
        self.assertEqual(first_rude(book_of(*pages[:2]), TERMS, 3), (6, owed(pages[1], "card")))
        self.assertEqual(first_rude(book, TERMS, 6), (7, owed(pages[0], "visit", 3, 4, 5, 6)))

    def test_of_one_last_the_first_in_the_order_of_dues(self):
        pages = [("card", 2, "elm", "fern"), ("card", 2, "ash", "fern"), ("card", 2, "ash", "elm")]
        self.assertEqual(first_rude(book_of(*pages), TERMS, 2), (5, owed(pages[2], "card")))
        self.assertEqual(first_rude(book_of(*pages[:2]), TERMS, 2), (5, owed(pages[1], "card")))

    def test_however_far(self):
        book = book_of(VISIT, ("mourn", 3, "elm", 60), ("mourn", 3, "ash", 60))
        self.assertEqual(first_rude(book, (60, 60), 3), (122, owed(VISIT, "visit")))


class DrawnTest(unittest.TestCase):
    def test_against_the_second_walk(self):
        rng = random.Random(361)
        met = {"soon": 0, "far": 0, "rude": 0, "alike": 0, "none": 0, "no house": 0}
        for book, terms, day in drawn_walks(362, 400):
            kept = repr(book)
            second = Second(book, terms, day)
            rows = [(second.last(day, due), due) for due in second.dues() if second.left(due)]
            # Sorting keeps those of one LAST as they were, which is the order of 25.
            rows.sort(key=lambda row: row[0])
            self.assertEqual(repr(first_rude(book, terms, day)), repr(rows[0] if rows else None))
            met["none"] += not rows
            met["rude"] += len(second.dues()) - len(rows)
            for name in NAMES[:6]:
                far = rng.randint(1, 28)
                told = outcome(soon, book, terms, day, name, far)
                if name not in second.homes:
                    self.assertEqual(told, f"NoHouse {{'name': '{name}'}}")
                    met["no house"] += 1
                    continue
                right = [row for row in rows if row[1][0] == name and row[0] <= day + far]
                self.assertEqual(told, repr(right))
                self.assertEqual(outcome(soon, up_to(book, day), terms, day, name, far), told)
                met["soon"] += len(right)
                met["far"] += len([row for row in rows if row[1][0] == name]) - len(right)
                met["alike"] += len(right) - len({row[0] for row in right})
            self.assertEqual(repr(book), kept)
        self.assertGreater(min(met.values()), 15, met)

    def test_rude_first_where_nothing_is_told(self):
        rng = random.Random(363)
        for _ in range(60):
            book, terms, day = draw_walk_book(rng, many=30), draw_terms(rng), rng.randrange(35)
            pair = first_rude(book, terms, day)
            if pair is None:
                continue
            end, due = pair
            self.assertEqual(last(book, terms, day, due), end)
            short = up_to(book, day)
            before, behind = ([one[:4] for one in dues(short, terms, later)
                               if len(one[4]) == terms[one[2] == "card"]] for later in (end - 1, end))
            already = [one[:4] for one in dues(short, terms, day) if len(one[4]) == terms[one[2] == "card"]]
            self.assertEqual(before, already)
            self.assertIn(due[:4], behind)

    def test_paid_on_its_last_day(self):
        book = book_of(VISIT)
        end, due = first_rude(book, TERMS, 4)
        paid = in_order(book + (("visit", end, "elm", "ash"),))
        self.assertEqual(dues(paid, TERMS, end), [])
        self.assertIsNone(first_rude(paid, TERMS, end))


if __name__ == "__main__":
    unittest.main()
