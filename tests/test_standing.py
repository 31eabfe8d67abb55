import random
import unittest

from cardsback.books import up_to
from cardsback.errors import NoHouse
from cardsback.pages import in_order
from cardsback.standing import came, home_of, idle, standing
from tests.things import NAMES, draw_book, outcome, refusal


def told_by_names(book, day):
    """Who stands, who came and what was IDLE: a second walk that keeps for each NAME where it is."""
    where = {}
    spare = []
    for page in book:
        if page[1] > day:
            break
        kind, rest = page[0], page[2:]
        old = {"house": (), "part": rest[:1], "home": rest[:1], "mourn": rest[:1]}.get(kind, rest[:2])
        new = {"house": rest[:1], "part": rest[1:2]}.get(kind, ())
        if any(where.get(name, "gone") == "gone" for name in old) or any(name in where for name in new):
            spare.append(page)
            continue
        for name in new:
            where[name] = rest[-1]
        if kind == "home":
            where[rest[0]] = rest[1]
        if kind == "join":
            where[rest[1]] = "gone"
    stand = [(name, where[name]) for name in sorted(where) if where[name] != "gone"]
    return stand, sorted(where), spare


class StandingTest(unittest.TestCase):
    def test_no_pages(self):
        for day in (0, 9999):
            self.assertEqual(standing((), day), [])
            self.assertEqual(came((), day), [])
            self.assertEqual(idle((), day), [])

    def test_houses_come(self):
        book = in_order([("house", 3, "elm", (0, 6)), ("house", 5, "ash", ()), ("house", 5, "as", (1,))])
        self.assertEqual(standing(book, 2), [])
        self.assertEqual(standing(book, 3), [("elm", (0, 6))])
        self.assertEqual(standing(book, 4), [("elm", (0, 6))])
        self.assertEqual(standing(book, 5), [("as", (1,)), ("ash", ()), ("elm", (0, 6))])
        self.assertEqual(came(book, 5), ["as", "ash", "elm"])
        self.assertEqual(came(book, 2), [])
        self.assertEqual(idle(book, 9), [])

    def test_a_name_that_comes_twice(self):
        first, second = ("house", 1, "ash", (1,)), ("house", 4, "ash", (2,))
        book = (first, second)
        self.assertEqual(standing(book, 4), [("ash", (1,))])
        self.assertEqual(idle(book, 3), [])
        self.assertEqual(idle(book, 4), [second])
        self.assertEqual(came(book, 4), ["ash"])

    def test_a_name_that_comes_twice_on_one_day(self):
        book = in_order([("house", 1, "ash", (2,)), ("house", 1, "ash", ())])
        self.assertEqual(standing(book, 1), [("ash", ())])
        self.assertEqual(idle(book, 1), [("house", 1, "ash", (2,))])

    def test_going_up(self):
        join = ("join", 3, "ash", "elm")
        book = in_order([("house", 1, "ash", (1,)), ("house", 1, "elm", (2,)), join])
        self.assertEqual(standing(book, 2), [("ash", (1,)), ("elm", (2,))])
        self.assertEqual(standing(book, 3), [("ash", (1,))])
        self.assertEqual(came(book, 3), ["ash", "elm"])
        self.assertEqual(idle(book, 9), [])

    def test_a_name_that_comes_again_after_it_went_up(self):
        house, part = ("house", 4, "elm", (5,)), ("part", 5, "ash", "elm", ())
        book = in_order([("house", 1, "ash", (1,)), ("house", 1, "elm", (2,)), ("join", 3, "ash", "elm"), house, part])
        self.assertEqual(standing(book, 9), [("ash", (1,))])
        self.assertEqual(came(book, 9), ["ash", "elm"])
        self.assertEqual(idle(book, 9), [house, part])

    def test_parting(self):
        book = in_order([("house", 1, "ash", (1,)), ("part", 2, "ash", "elm", (2, 3))])
        self.assertEqual(standing(book, 1), [("ash", (1,))])
        self.assertEqual(standing(book, 2), [("ash", (1,)), ("elm", (2, 3))])
        self.assertEqual(came(book, 2), ["ash", "elm"])

    def test_parting_from_a_house_that_does_not_stand(self):
        never, gone = ("part", 2, "fern", "elm", ()), ("part", 6, "birch", "elm", ())
        late = ("part", 7, "ash", "elm", (4,))
        book = in_order([("house", 1, "ash", (1,)), ("house", 1, "birch", ()), ("join", 5, "ash", "birch"),
                         never, gone, late])
        self.assertEqual(standing(book, 6), [("ash", (1,))])
        self.assertEqual(idle(book, 6), [never, gone])
        self.assertEqual(came(book, 6), ["ash", "birch"])
        self.assertEqual(standing(book, 7), [("ash", (1,)), ("elm", (4,))])

    def test_pages_of_one_day_in_the_order_of_kinds(self):
        book = in_order([
            ("visit", 2, "fern", "ash"), ("card", 2, "ash", "elm"), ("ahead", 2, "fern", "ash"),
            ("mourn", 2, "fern", 4), ("home", 2, "fern", (6,)), ("join", 2, "fern", "elm"),
            ("part", 2, "elm", "fern", (3,)), ("part", 2, "ash", "elm", (4,)), ("house", 2, "ash", (1,)),
        ])
        self.assertEqual(standing(book, 2), [("ash", (1,)), ("fern", (6,))])
        self.assertEqual(came(book, 2), ["ash", "elm", "fern"])
        self.assertEqual(idle(book, 2), [("card", 2, "ash", "elm")])

    def test_pages_of_one_kind_and_day_as_they_sort(self):
        book = in_order([("house", 2, "elm", ()), ("part", 2, "elm", "ash", ()), ("part", 2, "ash", "fern", ())])
        self.assertEqual(idle(book, 2), [("part", 2, "ash", "fern", ())])
        joins = in_order([("house", 1, name, ()) for name in ("ash", "elm", "fern")]
                         + [("join", 2, "elm", "ash"), ("join", 2, "ash", "elm"), ("join", 2, "fern", "elm")])
        self.assertEqual(standing(joins, 2), [("ash", ()), ("fern", ())])
        self.assertEqual(idle(joins, 2), [("join", 2, "elm", "ash"), ("join", 2, "fern", "elm")])

    def test_each_kind_is_idle_where_one_of_its_houses_does_not_stand(self):
        start = [("house", 1, "ash", ()), ("house", 1, "elm", ()), ("join", 2, "ash", "elm")]
        for kind in ("join", "ahead", "card", "visit"):
            for a, b in (("ash", "elm"), ("elm", "ash"), ("ash", "fern"), ("fern", "ash"), ("elm", "fern")):
                page = (kind, 3, a, b)
                self.assertEqual(idle(in_order(start + [page]), 3), [page], page)
        for name in ("elm", "fern"):
            for page in (("home", 3, name, (1,)), ("mourn", 3, name, 5)):
                self.assertEqual(idle(in_order(start + [page]), 3), [page], page)
        for page in (("home", 3, "ash", (1,)), ("mourn", 3, "ash", 5)):
            self.assertEqual(idle(in_order(start + [page]), 3), [], page)

    def test_nothing_comes_of_idle_pages(self):
        book = in_order([("home", 1, "ash", (5,)), ("join", 1, "elm", "ash"), ("house", 2, "ash", (1,)),
                         ("join", 3, "elm", "ash"), ("house", 4, "elm", ())])
        self.assertEqual(standing(book, 9), [("ash", (1,)), ("elm", ())])
        self.assertEqual(idle(book, 9), [("join", 1, "elm", "ash"), ("home", 1, "ash", (5,)),
                                         ("join", 3, "elm", "ash")])

    def test_home_is_that_of_the_last_page_that_gave_one(self):
        book = in_order([("house", 1, "ash", (1,)), ("home", 4, "ash", ()), ("home", 6, "ash", (0, 2)),
                         ("home", 6, "ash", (0, 3)), ("house", 8, "ash", (5,)), ("part", 3, "ash", "elm", (6,)),
                         ("home", 9, "elm", (4,))])
        for day, home in ((1, (1,)), (3, (1,)), (4, ()), (5, ()), (6, (0, 3)), (8, (0, 3)), (20, (0, 3))):
            self.assertEqual(home_of(book, day, "ash"), home, day)
        self.assertEqual(home_of(book, 8, "elm"), (6,))
        self.assertEqual(home_of(book, 9, "elm"), (4,))
        self.assertEqual(standing(book, 9), [("ash", (0, 3)), ("elm", (4,))])

    def test_home_is_not_handed_on_by_joining(self):
        book = in_order([("house", 1, "ash", (1,)), ("house", 1, "elm", (2,)), ("join", 1, "ash", "elm")])
        self.assertEqual(home_of(book, 1, "ash"), (1,))

    def test_no_house(self):
        book = in_order([("house", 2, "ash", (1,)), ("house", 2, "elm", (2,)), ("join", 4, "ash", "elm")])
        for day, name in ((1, "ash"), (4, "elm"), (9, "elm"), (4, "fern"), (0, "elm")):
            error = refusal(home_of, book, day, name)
            self.assertIs(type(error), NoHouse)
            self.assertIs(error.name, name)
        self.assertEqual(home_of(book, 3, "elm"), (2,))
        self.assertEqual(refusal(home_of, (), 0, "ash").name, "ash")

    def test_told_lists_are_the_askers_own(self):
        book = in_order([("house", 1, "ash", (1,)), ("house", 2, "ash", (1,))])
        for function in (standing, came, idle):
            told = function(book, 3)
            kept = list(told)
            self.assertTrue(kept)
            told.clear()
            self.assertEqual(function(book, 3), kept)

    def test_drawn_against_a_second_walk(self):
        rng = random.Random(31)
        for _ in range(150):
            book = draw_book(rng)
            kept = repr(book)
            for day in (0, 3, rng.randrange(30), 29, 200):
                stand, known, spare = told_by_names(book, day)
                self.check_kinds(book, day)
                self.assertEqual(standing(book, day), stand)
                self.assertEqual(came(book, day), known)
                self.assertEqual(idle(book, day), spare)
                homes = dict(stand)
                for name in NAMES:
                    right = repr(homes[name]) if name in homes else f"NoHouse {({'name': name})!r}"
                    self.assertEqual(outcome(home_of, book, day, name), right)
            self.assertEqual(repr(book), kept)

    def check_kinds(self, book, day):
        for function in (standing, came, idle):
            self.assertIs(type(function(book, day)), list)
        for pair in standing(book, day):
            self.assertEqual([type(part) for part in (pair, pair[0], pair[1])], [tuple, str, tuple])

    def test_later_pages_turn_nothing(self):
        rng = random.Random(32)
        for _ in range(60):
            book = draw_book(rng)
            met = []
            for day in range(0, 32, 3):
                short = up_to(book, day)
                for function in (standing, came, idle):
                    self.assertEqual(function(book, day), function(short, day))
                self.assertLessEqual(set(met), set(came(book, day)))
                self.assertLessEqual({name for name, home in standing(book, day)}, set(came(book, day)))
                met = came(book, day)


if __name__ == "__main__":
    unittest.main()
