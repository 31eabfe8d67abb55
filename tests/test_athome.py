import random
import unittest

from cardsback.athome import at_home, home_days
from cardsback.books import up_to
from cardsback.errors import NoHouse
from cardsback.mourning import mourning_days, mourns
from cardsback.pages import in_order
from cardsback.standing import standing
from tests.secondwalk import Second, draw_walk_book
from tests.things import NAMES, draw_book, refusal

ASH, ELM = ("house", 1, "ash", (0, 3)), ("house", 1, "elm", (2, 3, 4))


class AtHomeTest(unittest.TestCase):
    def test_weekdays(self):
        book = (ASH, ELM)
        for day in range(1, 30):
            self.assertIs(at_home(book, day, "ash"), day % 7 in (0, 3))
            self.assertIs(at_home(book, day, "elm"), day % 7 in (2, 3, 4))

    def test_homes_of_none_and_of_all(self):
        book = in_order([("house", 0, "ash", ()), ("house", 0, "elm", tuple(range(7)))])
        for day in range(9):
            self.assertIs(at_home(book, day, "ash"), False)
            self.assertIs(at_home(book, day, "elm"), True)

    def test_mourning(self):
        book = in_order([ASH, ELM, ("mourn", 8, "ash", 3)])
        told = [at_home(book, day, "ash") for day in (3, 7, 8, 10, 14)]
        self.assertEqual(told, [True, True, False, False, True])
        self.assertIs(at_home(book, 10, "elm"), True)
        # One day fewer ends ahead of day 10.
        self.assertIs(at_home(in_order([ASH, ("mourn", 8, "ash", 2)]), 10, "ash"), True)

    def test_mourning_that_is_told_later(self):
        book = in_order([ASH, ("mourn", 11, "ash", 20)])
        self.assertIs(at_home(book, 10, "ash"), True)
        self.assertIs(at_home(book, 14, "ash"), False)

    def test_a_home_that_was_changed_on_the_day_and_behind_it(self):
        book = in_order([ASH, ("home", 10, "ash", (4,))])
        self.assertEqual([at_home(book, day, "ash") for day in (7, 10, 11, 14)], [True, False, True, False])
        self.assertIs(at_home(in_order([ASH, ("home", 10, "ash", ()), ("home", 10, "ash", (3,))]), 10, "ash"), True)
        self.assertIs(at_home(in_order([ASH, ("home", 11, "ash", ())]), 10, "ash"), True)

    def test_idle_pages(self):
        book = in_order([("home", 0, "ash", (4,)), ("mourn", 0, "ash", 60), ASH, ("house", 2, "ash", (4,))])
        self.assertEqual([at_home(book, day, "ash") for day in (3, 4)], [True, False])

    def test_who_parts_has_its_own(self):
        book = in_order([ASH, ("mourn", 3, "ash", 30), ("part", 4, "ash", "oak", (0,))])
        self.assertEqual([at_home(book, 7, name) for name in ("ash", "oak")], [False, True])
        self.assertEqual(home_days(book, 4, "oak", 14), [7, 14])
        self.assertEqual(home_days(book, 4, "ash", 28), [])

    def test_who_takes_in_has_its_own(self):
        book = in_order([ASH, ELM, ("mourn", 3, "elm", 30), ("join", 4, "ash", "elm")])
        self.assertEqual([at_home(book, day, "ash") for day in (7, 9, 10)], [True, False, True])


class HomeDaysTest(unittest.TestCase):
    def test_the_next_far_ones(self):
        book = (ASH,)
        self.assertEqual(home_days(book, 2, "ash", 1), [3])
        self.assertEqual(home_days(book, 3, "ash", 3), [])
        self.assertEqual(home_days(book, 3, "ash", 4), [7])
        self.assertEqual(home_days(book, 3, "ash", 28), [7, 10, 14, 17, 21, 24, 28, 31])
        self.assertIs(type(home_days(book, 3, "ash", 3)), list)
        self.assertEqual(home_days((("house", 1, "ash", ()),), 3, "ash", 28), [])

    def test_mourning_that_is_known(self):
        book = in_order([ASH, ("mourn", 4, "ash", 7), ("mourn", 17, "ash", 1)])
        self.assertEqual(home_days(book, 3, "ash", 14), [7, 10, 14, 17])
        self.assertEqual(home_days(book, 4, "ash", 14), [14, 17])
        self.assertEqual(home_days(book, 17, "ash", 14), [21, 24, 28, 31])

    def test_a_home_that_is_told_later(self):
        book = in_order([ASH, ("home", 6, "ash", (5,))])
        self.assertEqual(home_days(book, 5, "ash", 10), [7, 10, 14])
        self.assertEqual(home_days(book, 6, "ash", 10), [12])

    def test_days_to_come_above_all_days(self):
        book = (("house", 9990, "ash", (0, 3)), ("mourn", 9998, "ash", 10))
        self.assertEqual([10003 % 7, 10006 % 7, 10010 % 7, 10013 % 7], [0, 3, 0, 3])
        self.assertEqual(home_days(book, 9997, "ash", 16), [9999, 10003, 10006, 10010, 10013])
        self.assertEqual(home_days(book, 9999, "ash", 16), [10010, 10013])

    def test_the_list_is_the_askers_own(self):
        told = home_days((ASH,), 3, "ash", 7)
        told.clear()
        self.assertEqual(home_days((ASH,), 3, "ash", 7), [7, 10])


class NoHouseTest(unittest.TestCase):
    def test_a_name_that_does_not_stand(self):
        book = in_order([ASH, ELM, ("join", 6, "ash", "elm")])
        for day, name in ((0, "ash"), (6, "elm"), (400, "elm"), (3, "oak"), (3, "as")):
            for error in (refusal(at_home, book, day, name), refusal(home_days, book, day, name, 5)):
                self.assertIs(type(error), NoHouse)
                self.assertEqual(vars(error), {"name": name})
        self.assertEqual(refusal(at_home, (), 0, "ash").name, "ash")
        self.assertEqual(home_days(book, 5, "elm", 5), [9, 10])
        self.assertIs(at_home(book, 3, "elm"), True)


class DrawnTest(unittest.TestCase):
    def test_against_the_second_walk(self):
        rng = random.Random(311)
        met = {}
        for k in range(80):
            book = draw_walk_book(rng) if k % 2 else draw_book(rng)
            kept = repr(book)
            for day in (0, rng.randrange(30), 29, 60):
                second = Second(book, (3, 3), day)
                for name in NAMES + ("never",):
                    far = rng.randint(1, 28)
                    if name not in second.homes:
                        for error in (refusal(at_home, book, day, name), refusal(home_days, book, day, name, far)):
                            self.assertEqual((type(error), error.name), (NoHouse, name))
                        continue
                    days = [later for later in range(day, day + far + 1)
                            if later % 7 in second.homes[name] and not second.black_on(later, name)]
                    self.assertIs(at_home(book, day, name), day in days)
                    self.assertEqual(repr(home_days(book, day, name, far)), repr([e for e in days if e > day]))
                    self.assertIs(at_home(up_to(book, day), day, name), day in days)
                    self.assertEqual(home_days(up_to(book, day), day, name, far), home_days(book, day, name, far))
                    key = (day in days, second.black_on(day, name), bool(days))
                    met[key] = met.get(key, 0) + 1
            self.assertEqual(repr(book), kept)
        self.assertGreater(min(met.values()), 10, met)
        self.assertEqual(len(met), 5, met)

    def test_what_is_known_comes_so_where_nothing_is_told(self):
        rng = random.Random(312)
        for _ in range(60):
            book, day = draw_walk_book(rng), rng.randrange(30)
            short = up_to(book, day)
            for name, home in standing(book, day):
                told = home_days(book, day, name, 12)
                self.assertEqual(told, [e for e in range(day + 1, day + 13) if at_home(short, e, name)])
                self.assertFalse(set(told) & set(mourning_days(book, day, name, 12)))
                self.assertFalse(at_home(book, day, name) and mourns(book, day, name))


if __name__ == "__main__":
    unittest.main()
