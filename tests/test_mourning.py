import random
import unittest

from cardsback.books import up_to
from cardsback.mourning import mourning_days, mourns
from cardsback.pages import in_order
from cardsback.standing import standing
from tests.secondwalk import Second, draw_walk_book
from tests.things import NAMES, draw_book

ASH, ELM = ("house", 1, "ash", (0,)), ("house", 1, "elm", (1,))


def days_mourned(book, days, name):
    return [day for day in days if mourns(book, day, name)]


class MournsTest(unittest.TestCase):
    def test_no_pages(self):
        self.assertIs(mourns((), 3, "ash"), False)
        self.assertIs(mourns((ASH,), 3, "ash"), False)
        self.assertIs(mourns((ASH,), 0, "ash"), False)

    def test_one_page(self):
        book = (ASH, ELM, ("mourn", 3, "ash", 4))
        self.assertEqual(days_mourned(book, range(12), "ash"), [3, 4, 5, 6])
        self.assertEqual(days_mourned(book, range(12), "elm"), [])
        self.assertEqual(days_mourned(book, range(12), "as"), [])
        self.assertEqual([mourns(book, day, "ash") for day in (2, 3)], [False, True])

    def test_one_day_and_sixty(self):
        self.assertEqual(days_mourned((ASH, ("mourn", 3, "ash", 1)), range(80), "ash"), [3])
        self.assertEqual(days_mourned((ASH, ("mourn", 3, "ash", 60)), range(80), "ash"), list(range(3, 63)))

    def test_pages_over_one_another(self):
        book = in_order([ASH, ("mourn", 3, "ash", 9), ("mourn", 5, "ash", 2), ("mourn", 10, "ash", 4),
                         ("mourn", 10, "ash", 1), ("mourn", 16, "ash", 1)])
        self.assertEqual(days_mourned(book, range(20), "ash"), list(range(3, 14)) + [16])

    def test_idle_pages(self):
        book = in_order([("mourn", 0, "ash", 9), ("house", 4, "ash", ()), ("mourn", 6, "ash", 1)])
        self.assertEqual(days_mourned(book, range(12), "ash"), [6])

    def test_on_the_day_it_comes(self):
        book = in_order([("mourn", 4, "ash", 2), ("house", 4, "ash", ())])
        self.assertEqual(days_mourned(book, range(8), "ash"), [4, 5])

    def test_a_house_that_went_up(self):
        book = in_order([ASH, ELM, ("mourn", 3, "elm", 9), ("join", 6, "ash", "elm"), ("mourn", 7, "elm", 5)])
        self.assertEqual(days_mourned(book, range(15), "elm"), [3, 4, 5])
        self.assertEqual(days_mourned(book, range(15), "ash"), [])

    def test_who_parts_does_not_mourn(self):
        book = in_order([ASH, ("mourn", 2, "ash", 9), ("part", 4, "ash", "elm", ()), ("part", 2, "ash", "fern", ())])
        self.assertEqual(days_mourned(book, range(15), "elm"), [])
        self.assertEqual(days_mourned(book, range(15), "fern"), [])
        self.assertEqual(days_mourned(book, range(15), "ash"), list(range(2, 11)))

    def test_later_pages_are_not_looked_at(self):
        book = in_order([ASH, ELM, ("mourn", 3, "elm", 4), ("join", 5, "ash", "elm")])
        self.assertIs(mourns(book, 4, "elm"), True)
        self.assertIs(mourns(book, 5, "elm"), False)


class MourningDaysTest(unittest.TestCase):
    def test_none(self):
        self.assertEqual(mourning_days((), 3, "ash", 28), [])
        self.assertEqual(mourning_days((ASH,), 3, "ash", 28), [])

    def test_the_day_asked_is_not_told(self):
        book = (ASH, ELM, ("mourn", 3, "ash", 4))
        self.assertEqual(mourning_days(book, 2, "ash", 28), [])
        self.assertEqual(mourning_days(book, 3, "ash", 28), [4, 5, 6])
        self.assertEqual(mourning_days(book, 5, "ash", 28), [6])
        self.assertEqual(mourning_days(book, 6, "ash", 28), [])
        self.assertEqual(mourning_days(book, 3, "elm", 28), [])

    def test_far(self):
        book = (ASH, ("mourn", 3, "ash", 60))
        self.assertEqual(mourning_days(book, 3, "ash", 1), [4])
        self.assertEqual(mourning_days(book, 10, "ash", 3), [11, 12, 13])
        self.assertEqual(mourning_days(book, 10, "ash", 28), list(range(11, 39)))
        self.assertEqual(mourning_days(book, 60, "ash", 28), [61, 62])

    def test_gaps_and_pages_over_one_another(self):
        book = in_order([ASH, ("mourn", 3, "ash", 9), ("mourn", 4, "ash", 10), ("mourn", 5, "ash", 2)])
        self.assertEqual(mourning_days(book, 5, "ash", 28), list(range(6, 14)))
        self.assertEqual(mourning_days(book, 3, "ash", 28), list(range(4, 12)))

    def test_what_is_told_later_is_not_known(self):
        book = in_order([ASH, ("mourn", 3, "ash", 2), ("mourn", 6, "ash", 2)])
        self.assertEqual(mourning_days(book, 3, "ash", 28), [4])
        self.assertEqual(mourning_days(book, 5, "ash", 28), [])
        self.assertEqual(mourning_days(book, 6, "ash", 28), [7])

    def test_an_idle_page(self):
        book = in_order([("mourn", 0, "ash", 30), ASH])
        self.assertEqual(mourning_days(book, 1, "ash", 28), [])

    def test_a_house_that_does_not_stand(self):
        book = in_order([ASH, ELM, ("mourn", 3, "elm", 9), ("join", 6, "ash", "elm")])
        self.assertEqual(mourning_days(book, 5, "elm", 28), list(range(6, 12)))
        self.assertEqual(mourning_days(book, 6, "elm", 28), [])
        self.assertEqual(mourning_days(book, 6, "ash", 28), [])
        self.assertEqual(mourning_days(book, 6, "fern", 28), [])
        self.assertEqual(mourning_days(book, 0, "ash", 28), [])

    def test_above_all_days(self):
        book = (("house", 9990, "ash", ()), ("mourn", 9995, "ash", 20))
        self.assertEqual(mourning_days(book, 9999, "ash", 28), list(range(10000, 10015)))
        self.assertEqual(mourning_days(book, 9997, "ash", 4), [9998, 9999, 10000, 10001])
        self.assertIs(mourns(book, 9999, "ash"), True)

    def test_the_list_is_the_askers_own(self):
        book = (ASH, ("mourn", 3, "ash", 4))
        told = mourning_days(book, 3, "ash", 28)
        told.append(99)
        self.assertEqual(mourning_days(book, 3, "ash", 28), [4, 5, 6])


class DrawnTest(unittest.TestCase):
    def test_against_the_second_walk(self):
        rng = random.Random(61)
        met = set()
        for k in range(120):
            book = draw_walk_book(rng) if k % 2 else draw_book(rng)
            kept = repr(book)
            for day in (0, rng.randrange(30), 29, 60):
                second = Second(book, (3, 3), day)
                stand = [name for name, home in standing(book, day)]
                for name in NAMES + ("never",):
                    right = name in stand and second.black_on(day, name)
                    self.assertIs(mourns(book, day, name), right)
                    self.assertIs(mourns(up_to(book, day), day, name), right)
                    far = rng.randint(1, 28)
                    days = [day + k for k in range(1, far + 1) if name in stand and second.black_on(day + k, name)]
                    self.assertEqual(repr(mourning_days(book, day, name, far)), repr(days))
                    met.add((right, bool(days)))
            self.assertEqual(repr(book), kept)
        # Whoever mourns on a day to come, by a PAGE of this day or an earlier one, mourns on this day.
        self.assertEqual(met, {(False, False), (True, False), (True, True)})

    def test_what_is_known_comes_so_where_nothing_is_told(self):
        rng = random.Random(62)
        for _ in range(60):
            book = draw_walk_book(rng)
            day = rng.randrange(30)
            short = up_to(book, day)
            for name in NAMES:
                known = mourning_days(book, day, name, 12)
                self.assertEqual(known, days_mourned(short, range(day + 1, day + 13), name))


if __name__ == "__main__":
    unittest.main()
