import random
import unittest

from cardsback.books import up_to
from cardsback.errors import NoHouse
from cardsback.heirs import heir, parted_from
from cardsback.pages import in_order
from cardsback.standing import came, standing
from tests.secondwalk import Second, draw_walk_book
from tests.things import NAMES, draw_book, outcome, refusal

FOUR = [("house", 1, name, ()) for name in ("ash", "elm", "fern", "oak")]


class HeirTest(unittest.TestCase):
    def test_itself_where_it_stands(self):
        book = in_order(FOUR + [("join", 5, "ash", "elm")])
        for name in ("ash", "fern", "oak"):
            for day in (1, 4, 5, 400):
                self.assertEqual(heir(book, day, name), name)

    def test_the_day_asked_and_the_day_ahead_of_it(self):
        book = in_order(FOUR + [("join", 5, "ash", "elm")])
        self.assertEqual(heir(book, 4, "elm"), "elm")
        self.assertEqual(heir(book, 5, "elm"), "ash")

    def test_one_in_another_several_times(self):
        book = in_order(FOUR + [("join", 3, "elm", "ash"), ("join", 5, "fern", "elm"), ("join", 7, "oak", "fern")])
        for day, told in ((2, ["ash", "elm", "fern", "oak"]), (3, ["elm", "elm", "fern", "oak"]),
                          (5, ["fern", "fern", "fern", "oak"]), (6, ["fern", "fern", "fern", "oak"]),
                          (7, ["oak"] * 4)):
            self.assertEqual([heir(book, day, name) for name in ("ash", "elm", "fern", "oak")], told)

    def test_several_in_one_and_this_one_in_another(self):
        book = in_order(FOUR + [("join", 3, "elm", "ash"), ("join", 3, "elm", "oak"), ("join", 4, "fern", "elm")])
        self.assertEqual([heir(book, 3, name) for name in ("ash", "elm", "oak")], ["elm"] * 3)
        self.assertEqual([heir(book, 4, name) for name in ("ash", "elm", "fern", "oak")], ["fern"] * 4)

    def test_on_one_day(self):
        book = in_order(FOUR + [("join", 3, "ash", "elm"), ("join", 3, "fern", "ash")])
        self.assertEqual(heir(book, 3, "elm"), "fern")
        # As these stand elm is gone when it should take ash in.
        book = in_order(FOUR + [("join", 3, "ash", "elm"), ("join", 3, "elm", "ash")])
        self.assertEqual([heir(book, 3, name) for name in ("ash", "elm")], ["ash", "ash"])

    def test_idle_joinings(self):
        book = in_order(FOUR + [("join", 3, "ash", "elm"), ("join", 4, "fern", "elm"), ("join", 5, "elm", "oak"),
                                ("join", 0, "oak", "fern"), ("join", 6, "never", "fern")])
        self.assertEqual([heir(book, 9, name) for name in ("ash", "elm", "fern", "oak")],
                         ["ash", "ash", "fern", "oak"])

    def test_who_parted_goes_up_in_it_again(self):
        book = in_order(FOUR + [("part", 2, "ash", "birch", ()), ("join", 4, "birch", "ash")])
        self.assertEqual(heir(book, 3, "birch"), "birch")
        self.assertEqual(heir(book, 4, "ash"), "birch")
        self.assertEqual(heir(book, 4, "birch"), "birch")


class StockTest(unittest.TestCase):
    def test_who_came_alone(self):
        book = in_order(FOUR + [("join", 5, "ash", "elm")])
        for name in ("ash", "elm", "fern"):
            self.assertEqual(parted_from(book, 9, name), (name,))

    def test_that_parted_from_one_that_parted(self):
        book = in_order(FOUR + [("part", 3, "ash", "b", ()), ("part", 5, "b", "c", ()), ("part", 7, "c", "d", ()),
                                ("part", 7, "ash", "e", ())])
        self.assertEqual(parted_from(book, 3, "b"), ("b", "ash"))
        self.assertEqual(parted_from(book, 5, "c"), ("c", "b", "ash"))
        self.assertEqual(parted_from(book, 7, "d"), ("d", "c", "b", "ash"))
        self.assertEqual(parted_from(book, 7, "e"), ("e", "ash"))
        self.assertEqual(parted_from(book, 7, "ash"), ("ash",))

    def test_who_went_up_has_its_stock_still(self):
        book = in_order(FOUR + [("part", 3, "ash", "b", ()), ("part", 5, "b", "c", ()), ("join", 6, "elm", "b"),
                                ("join", 7, "elm", "c"), ("join", 8, "elm", "ash")])
        for day in (6, 7, 8):
            self.assertEqual(parted_from(book, day, "c"), ("c", "b", "ash"))
            self.assertEqual(parted_from(book, day, "b"), ("b", "ash"))
            self.assertEqual(parted_from(book, day, "ash"), ("ash",))
            # Whoever takes others in has its own stock alone.
            self.assertEqual(parted_from(book, day, "elm"), ("elm",))

    def test_idle_partings(self):
        book = in_order(FOUR + [("part", 3, "ash", "b", ()), ("part", 4, "elm", "b", ()), ("part", 5, "elm", "oak", ()),
                                ("part", 0, "ash", "fern", ()), ("join", 6, "ash", "elm"),
                                ("part", 7, "elm", "c", ()), ("part", 7, "never", "d", ())])
        self.assertEqual(parted_from(book, 9, "b"), ("b", "ash"))
        self.assertEqual(parted_from(book, 9, "oak"), ("oak",))
        self.assertEqual(parted_from(book, 9, "fern"), ("fern",))
        for name in ("c", "d"):
            self.assertEqual(refusal(parted_from, book, 9, name).name, name)

    def test_on_one_day(self):
        book = in_order([("house", 3, "ash", ()), ("part", 3, "ash", "b", ()), ("part", 3, "b", "c", ())])
        self.assertEqual(parted_from(book, 3, "c"), ("c", "b", "ash"))


class NoHouseTest(unittest.TestCase):
    def test_a_name_that_never_came_by_then(self):
        book = in_order(FOUR + [("part", 3, "ash", "b", ()), ("join", 4, "elm", "b")])
        for function in (heir, parted_from):
            for day, name in ((0, "ash"), (2, "b"), (9, "never"), (9, "as"), (9, "bb")):
                error = refusal(function, book, day, name)
                self.assertIs(type(error), NoHouse)
                self.assertEqual(vars(error), {"name": name})
            for day, name in ((1, "ash"), (3, "b"), (4, "b"), (400, "b")):
                self.assertIsNone(refusal(function, book, day, name))
            self.assertEqual(refusal(function, (), 9999, "ash").name, "ash")


class DrawnTest(unittest.TestCase):
    def test_against_the_second_walk(self):
        rng = random.Random(301)
        met = {"far": 0, "gone": 0, "stock": 0, "none": 0}
        for k in range(100):
            book = draw_walk_book(rng, kinds=("part", "part", "join", "house", "home")) if k % 2 else draw_book(rng)
            kept = repr(book)
            for day in (rng.randrange(10), rng.randrange(30), 29, 60):
                second = Second(book, (3, 3), day)
                for name in NAMES + ("never",):
                    told = [outcome(function, book, day, name) for function in (heir, parted_from)]
                    short = up_to(book, day)
                    self.assertEqual([outcome(function, short, day, name) for function in (heir, parted_from)], told)
                    if name not in second.heirs:
                        self.assertEqual(told, [f"NoHouse {{'name': '{name}'}}"] * 2)
                        met["none"] += 1
                        continue
                    self.assertEqual(told, [repr(second.heirs[name]), repr(second.stocks[name])])
                    met["gone"] += second.heirs[name] != name
                    met["stock"] += len(second.stocks[name]) > 2
                    done = [page for page, mark in second.marked if mark == ("done",)]
                    first = [page[2] for page in done if page[::3] == ("join", name)]
                    met["far"] += first not in ([], [second.heirs[name]])
            self.assertEqual(repr(book), kept)
        self.assertGreater(min(met.values()), 10, met)

    def test_each_name_that_came_has_one_heir_which_stands(self):
        rng = random.Random(302)
        for _ in range(80):
            book = draw_walk_book(rng, kinds=("part", "part", "join", "house"))
            before = []
            for day in range(0, 31, 3):
                stand = [name for name, home in standing(book, day)]
                there = came(book, day)
                self.assertLessEqual(set(before), set(there))
                for name in there:
                    self.assertIn(heir(book, day, name), stand)
                    self.assertEqual(heir(book, day, name) == name, name in stand)
                    stock = parted_from(book, day, name)
                    self.assertEqual((stock[0], set(stock) - set(there)), (name, set()))
                    for k, older in enumerate(stock):
                        self.assertEqual(parted_from(book, day, older), stock[k:])
                before = there


if __name__ == "__main__":
    unittest.main()
