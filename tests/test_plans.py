import random
import unittest

from cardsback.bookranks import ranks
from cardsback.books import is_book, up_to
from cardsback.errors import NoCrowd, NoHouse, NoOrder, TooMany
from cardsback.pages import in_order
from cardsback.plans import followed, home_worth, plan
from cardsback.sayings import sayings
from cardsback.walking import dues, marks
from cardsback.wanted import wanted
from tests.secondwalk import Second, draw_terms, draw_walk_book
from tests.test_wanted import right_wanted
from tests.things import NAMES, draw_home, draw_page, is_way, outcome, refusal
from tests.wantschecks import is_cases, is_crowd, least_goings

WEEK = tuple(range(7))
OTHERS = ("birch", "elm", "fern", "oak", "pine")
TERMS = (7, 7)


def book_of(homes, *pages, day=0):
    """The BOOK of ash, of houses with their HOMES, each of which went to see ash on the day, and of these PAGES."""
    houses = [("house", 0, "ash", WEEK)] + [("house", 0, name, home) for name, home in homes]
    return in_order(houses + [("visit", day, name, "ash") for name, home in homes] + list(pages))


def two_due(*pages):
    """elm is at home on days 3 and 5 of a week, fern on 5 and 6."""
    return book_of((("elm", (3, 5)), ("fern", (5, 6))), *pages)


def wants_of(book, terms, day, name, far):
    return tuple((house, days) for house, sort, days in wanted(book, terms, day, name, far))


def draw_plan_book(rng):
    """A BOOK in which much is owed by ash, with few SAYINGS, and mostly no RING."""
    names = rng.sample(OTHERS, rng.choice((1, 2, 3, 4, 5, 5)))
    pages = [("house", 0, "ash", WEEK)]
    alone = rng.random() < 0.4
    for k, name in enumerate(names):
        home = (k,) if alone else rng.choice((WEEK, (0, 2, 4), draw_home(rng), draw_home(rng)))
        pages.append(("house", 0, name, home))
        for _ in range(rng.randint(1, 2)):
            pages.append((rng.choice(("visit", "visit", "card")), rng.randint(5, 12), name, "ash"))
    if rng.random() < 0.3:
        pages.append(("mourn", rng.randint(8, 14), rng.choice(["ash"] + names), rng.randint(1, 6)))
    for _ in range(rng.choice((0, 1, 2))):
        pages.append(("ahead", 5) + tuple(rng.sample(["ash"] + names, 2)))
    if rng.random() < 0.3:
        pages.append(("part", rng.randint(3, 12), "ash", "zoe", (1,)))
    # Told of later days: nothing of it is known yet.
    pages += [("visit", 20, "ash", rng.choice(names)), ("home", 17, rng.choice(names), ()), ("mourn", 16, "ash", 9)]
    return in_order(pages)


class PlanTest(unittest.TestCase):
    def test_nothing_is_wanted(self):
        book = in_order([("house", 0, "ash", ()), ("house", 0, "elm", ())])
        for name in ("ash", "elm"):
            self.assertEqual(plan(book, TERMS, 3, name, 2, 28), ((), None))

    def test_one_out_for_both(self):
        book = two_due()
        outs, cases = plan(book, TERMS, 0, "ash", 2, 28)
        self.assertEqual(outs, ((5, (("visit", 5, "ash", "elm"), ("visit", 5, "ash", "fern"))),))
        self.assertTrue(is_cases(wants_of(book, TERMS, 0, "ash", 28), 2, 0, cases))

    def test_two_outs_where_most_is_one(self):
        book = two_due()
        outs, cases = plan(book, TERMS, 0, "ash", 1, 28)
        self.assertEqual(len(outs), 2)
        self.assertLess(outs[0][0], outs[1][0])
        self.assertTrue(is_cases(wants_of(book, TERMS, 0, "ash", 28), 1, 1, cases))

    def test_as_the_order_has_them(self):
        order = ("ahead", 0, "fern", "elm")
        outs, cases = plan(two_due(order), TERMS, 0, "ash", 2, 28)
        self.assertEqual(outs, ((5, (("visit", 5, "ash", "fern"), ("visit", 5, "ash", "elm"))),))
        later = ("ahead", 1, "fern", "elm")
        outs, cases = plan(two_due(later), TERMS, 0, "ash", 2, 28)
        self.assertEqual([page[3] for page in outs[0][1]], ["elm", "fern"])
        # By houses that are not gone to, too.
        between = (("ahead", 0, "fern", "ash"), ("ahead", 0, "ash", "elm"))
        outs, cases = plan(two_due(*between), TERMS, 0, "ash", 2, 28)
        self.assertEqual([page[3] for page in outs[0][1]], ["fern", "elm"])

    def test_by_their_sorts(self):
        book = in_order([("house", 0, "ash", WEEK), ("house", 0, "elm", WEEK), ("house", 0, "fern", WEEK),
                         ("card", 1, "elm", "ash"), ("visit", 1, "fern", "ash")])
        outs, cases = plan(book, (3, 3), 1, "ash", 2, 28)
        self.assertEqual(len(outs), 1)
        day = outs[0][0]
        self.assertEqual(outs[0][1], (("card", day, "ash", "elm"), ("visit", day, "ash", "fern")))

    def test_far(self):
        book = two_due()
        self.assertEqual(plan(book, TERMS, 0, "ash", 2, 6), ((), None))
        self.assertEqual(len(plan(book, TERMS, 0, "ash", 2, 7)[0]), 1)

    def test_no_house(self):
        for book, name in ((two_due(), "oak"), ((), "ash"), (two_due(("join", 0, "elm", "ash")), "ash")):
            error = refusal(plan, book, TERMS, 0, name, 2, 28)
            self.assertIs(type(error), NoHouse)
            self.assertIs(error.name, name)

    def test_no_order(self):
        ring = (("ahead", 0, "fern", "elm"), ("ahead", 0, "elm", "fern"))
        for book, name in ((two_due(*ring), "ash"), (two_due(*ring), "elm")):
            error = refusal(plan, book, TERMS, 0, name, 2, 28)
            self.assertIs(type(error), NoOrder)
            self.assertEqual(sorted(error.ring), [("elm", "fern"), ("fern", "elm")])
            self.assertEqual(error.ring[0][1], error.ring[1][0])
        # A RING of houses that are not gone to, and where nothing is wanted.
        book = in_order([("house", 0, name, ()) for name in ("ash", "elm", "fern")] + list(ring))
        self.assertIs(type(refusal(plan, book, TERMS, 0, "ash", 2, 28)), NoOrder)

    def test_no_crowd(self):
        book = book_of((("elm", (0,)), ("fern", (3,)), ("oak", (3,))))
        error = refusal(plan, book, TERMS, 0, "ash", 1, 28)
        self.assertIs(type(error), NoCrowd)
        self.assertEqual(error.names, ("fern", "oak"))
        self.assertEqual(len(plan(book, TERMS, 0, "ash", 2, 28)[0]), 2)
        book = two_due(("home", 0, "elm", ()), ("visit", 0, "elm", "ash"))
        self.assertEqual(refusal(plan, book, TERMS, 0, "ash", 4, 28).names, ("elm",))

    def test_too_many(self):
        book = book_of(tuple((name, (k,)) for k, name in enumerate(OTHERS)))
        error = refusal(plan, book, TERMS, 0, "ash", 4, 28)
        self.assertIs(type(error), TooMany)
        self.assertEqual(error.word, "goings")
        four = book_of(tuple((name, (k,)) for k, name in enumerate(OTHERS[:4])))
        self.assertEqual([day for day, pages in plan(four, TERMS, 0, "ash", 4, 28)[0]], [1, 2, 3, 7])

    def test_refusals_in_their_order(self):
        ring = (("ahead", 0, "fern", "elm"), ("ahead", 0, "elm", "fern"))
        self.assertEqual(outcome(plan, two_due(*ring), TERMS, 0, "oak", 1, 28), "NoHouse {'name': 'oak'}")
        crowd = two_due(("home", 0, "elm", ()), *ring)
        self.assertIs(type(refusal(plan, crowd, TERMS, 0, "ash", 1, 28)), NoOrder)
        many = book_of(tuple((name, (k,)) for k, name in enumerate(OTHERS)), *ring)
        self.assertIs(type(refusal(plan, many, TERMS, 0, "ash", 4, 28)), NoOrder)
        both = book_of(tuple((name, (k,)) for k, name in enumerate(OTHERS)) + (("yew", ()),))
        error = refusal(plan, both, TERMS, 0, "ash", 4, 28)
        self.assertEqual((type(error), error.names), (NoCrowd, ("yew",)))


class FollowedTest(unittest.TestCase):
    def test_of_no_outs(self):
        book = two_due(("card", 4, "ash", "elm"))
        self.assertEqual(followed(book, 4, ()), book)
        self.assertEqual(followed(book, 3, ()), book[:-1])
        self.assertEqual(followed((), 3, ()), ())

    def test_pages_of_later_days_are_left_out(self):
        book = two_due(("card", 4, "ash", "elm"), ("mourn", 2, "ash", 9))
        outs = ((5, (("visit", 5, "ash", "fern"), ("visit", 5, "ash", "elm"))),)
        self.assertEqual(followed(book, 1, outs), up_to(book, 1) + (outs[0][1][1], outs[0][1][0]))

    def test_any_kinds_in_any_order(self):
        pages = (("house", 9, "oak", (1,)), ("part", 9, "oak", "pine", ()), ("join", 9, "ash", "elm"),
                 ("home", 8, "ash", ()), ("mourn", 8, "ash", 3), ("ahead", 8, "ash", "elm"), ("card", 7, "a", "b"),
                 ("visit", 7, "b", "a"))
        outs = ((9, pages[2::-1]), (7, pages[:5:-1]), (8, pages[3:6]), (12, ()))
        book = two_due()
        told = followed(book, 0, outs)
        self.assertEqual(told, in_order(book + pages))
        self.assertTrue(is_book(told))
        self.assertEqual(followed(book, 0, outs[::-1]), told)

    def test_a_page_that_the_book_has_on_a_later_day(self):
        page = ("visit", 5, "ash", "elm")
        book = two_due(page, ("visit", 5, "ash", "fern"))
        self.assertEqual(followed(book, 1, ((5, (page,)),)), up_to(book, 1) + (page,))

    def test_a_plan_pays_in_time(self):
        book = two_due()
        outs, cases = plan(book, TERMS, 0, "ash", 2, 28)
        told = followed(book, 0, outs)
        for page in outs[0][1]:
            self.assertEqual(dict(marks(told, TERMS, 5))[page], ("answer", 1))
        self.assertEqual(dues(told, TERMS, 5), [])

    def test_drawn(self):
        rng = random.Random(261)
        for _ in range(100):
            book, day = draw_walk_book(rng), rng.randrange(30)
            pages = list({draw_page(rng, days=20): True for _ in range(rng.randrange(9))})
            pages = [(page[0], page[1] + day + 1) + page[2:] for page in pages]
            cut = rng.randint(0, len(pages))
            outs = ((day + 1, tuple(pages[:cut])), (day + 5, tuple(pages[cut:])))
            kept = repr((book, outs))
            right = in_order([page for page in book if page[1] <= day] + pages)
            self.assertEqual(repr(followed(book, day, outs)), repr(right))
            self.assertEqual(repr((book, outs)), kept)


class HomeWorthTest(unittest.TestCase):
    def test_weekdays(self):
        book = two_due()
        # elm on 3 and 5, fern on 5 and 6; by one place each they want two outs, whatever is put to it.
        self.assertEqual(home_worth(book, TERMS, 0, "ash", 2, 28, "elm"), (1,) * 7)
        self.assertEqual(home_worth(book, TERMS, 0, "ash", 1, 28, "elm"), (2,) * 7)
        apart = book_of((("elm", (3,)), ("fern", (5,))))
        self.assertEqual(home_worth(apart, TERMS, 0, "ash", 2, 28, "elm"), (2, 2, 2, 2, 2, 1, 2))
        self.assertEqual(home_worth(apart, TERMS, 0, "ash", 2, 28, "fern"), (2, 2, 2, 1, 2, 2, 2))
        self.assertEqual(home_worth(apart, TERMS, 0, "ash", 1, 28, "fern"), (2,) * 7)

    def test_none_where_no_round_is(self):
        book = book_of((("elm", ()), ("fern", (5,))))
        visits = in_order([("house", 0, "ash", WEEK), ("house", 0, "elm", WEEK), ("visit", 0, "elm", "ash"),
                           ("home", 1, "elm", ())])
        self.assertEqual(home_worth(book, TERMS, 0, "ash", 2, 28, "ash"), (None,) * 7)
        self.assertEqual(home_worth(visits, TERMS, 1, "ash", 2, 28, "elm"), (1, None, 1, 1, 1, 1, 1))
        self.assertEqual(home_worth(visits, (3, 3), 1, "ash", 2, 28, "elm"), (None, None, 1, 1, None, None, None))

    def test_of_the_house_itself(self):
        apart = book_of((("elm", (3,)), ("fern", (5,))))
        self.assertEqual(home_worth(apart, TERMS, 0, "ash", 2, 28, "ash"), (2,) * 7)

    def test_of_a_house_to_which_nothing_is_owed(self):
        apart = book_of((("elm", (3,)), ("fern", (5,))), ("house", 0, "oak", ()))
        self.assertEqual(home_worth(apart, TERMS, 0, "ash", 2, 28, "oak"), (2,) * 7)
        self.assertEqual(home_worth(apart, TERMS, 0, "oak", 2, 28, "elm"), (0,) * 7)

    def test_cards_want_nobody_at_home(self):
        book = in_order([("house", 0, "ash", ()), ("house", 0, "elm", ()), ("card", 0, "elm", "ash")])
        self.assertEqual(home_worth(book, TERMS, 0, "ash", 2, 28, "elm"), (1,) * 7)

    def test_mourning_counts(self):
        homes = (("elm", (3,)), ("fern", (5,)))
        self.assertEqual(home_worth(book_of(homes), TERMS, 1, "ash", 2, 28, "fern"), (2, 2, 2, 1, 2, 2, 2))
        # fern mourns on the day on which both could be gone to.
        book = book_of(homes, ("mourn", 1, "fern", 3))
        self.assertEqual(home_worth(book, TERMS, 1, "ash", 2, 28, "fern"), (2,) * 7)

    def test_ranks_are_not_looked_at(self):
        ring = (("ahead", 0, "fern", "elm"), ("ahead", 0, "elm", "fern"))
        self.assertEqual(home_worth(two_due(*ring), TERMS, 0, "ash", 2, 28, "elm"), (1,) * 7)

    def test_no_house(self):
        book = two_due(("join", 0, "elm", "oak"))
        for a, b, name in (("oak", "elm", "oak"), ("ash", "oak", "oak"), ("oak", "yew", "oak"), ("yew", "oak", "yew")):
            error = refusal(home_worth, book, TERMS, 0, a, 2, 28, b)
            self.assertIs(type(error), NoHouse)
            self.assertEqual(error.name, name)

    def test_too_many(self):
        book = book_of(tuple((name, (k,)) for k, name in enumerate(OTHERS)))
        for house in OTHERS + ("ash",):
            self.assertEqual(outcome(home_worth, book, TERMS, 0, "ash", 4, 28, house), "TooMany {'word': 'goings'}")
        self.assertEqual(outcome(home_worth, book, TERMS, 0, "ash", 4, 28, "yew"), "NoHouse {'name': 'yew'}")

    def test_too_many_where_some_are_none(self):
        # By one place a day: with the weekday 6 pine has a day of its own, the fifth; with 2 to 5 it crowds.
        homes = tuple((name, (k,)) for k, name in enumerate(OTHERS[:4], 2)) + (("pine", WEEK),)
        book = book_of(homes, ("home", 1, "pine", ()))
        self.assertEqual(outcome(home_worth, book, TERMS, 1, "ash", 1, 28, "pine"), "TooMany {'word': 'goings'}")
        self.assertEqual(outcome(home_worth, book, TERMS, 1, "ash", 1, 28, "ash"), repr((None,) * 7))
        self.assertEqual(home_worth(book, TERMS, 1, "ash", 2, 28, "ash"), (None,) * 7)


def home_worth_by_books(book, terms, day, name, most, far, house):
    """Point 73 by a "home" PAGE of a day on which nobody goes, and by all sets of days gone through."""
    row = []
    for w in range(7):
        home = tuple(sorted({*Second(book, terms, day).homes[house], w}))
        turned = in_order(up_to(book, day) + (("home", day, house, home),))
        wants = tuple((b, days) for b, sort, days in right_wanted(turned, terms, day, name, far))
        row.append(least_goings(wants, most))
    return tuple(row)


class DrawnTest(unittest.TestCase):
    def check_plan(self, book, terms, day, name, most, far):
        """What plan tells, held against the points; the kind of what it tells."""
        wants = wants_of(book, terms, day, name, far)
        word, order = ranks(book, day)
        error = refusal(plan, book, terms, day, name, most, far)
        many = least_goings(wants, most)
        if word == "ring":
            self.assertIs(type(error), NoOrder)
            self.assertTrue(is_way(sayings(book, day), error.ring[0][0], error.ring[0][0], error.ring))
            return "ring"
        if many is None:
            self.assertIs(type(error), NoCrowd)
            self.assertTrue(is_crowd(wants, most, error.names))
            return "crowd"
        if many > 4:
            self.assertEqual((type(error), error.word), (TooMany, "goings"))
            return "many"
        outs, cases = plan(book, terms, day, name, most, far)
        self.assertEqual(len(outs), many)
        self.check_outs(wanted(book, terms, day, name, far), name, most, order, outs)
        if many == 0:
            self.assertIsNone(cases)
            return "none"
        self.assertTrue(is_cases(wants, most, many - 1, cases), cases)
        self.check_followed(book, terms, day, name, outs, {house for house, days in wants})
        return "plan"

    def check_outs(self, some, name, most, order, outs):
        self.assertIs(type(outs), tuple)
        days = [day for day, pages in outs]
        self.assertEqual(days, sorted(set(days)))
        for day, pages in outs:
            self.assertTrue(1 <= len(pages) <= most)
            self.assertIs(type(pages), tuple)
            places = [order.index(page[3]) for page in pages]
            self.assertEqual(places, sorted(places))
        told = sorted((page[3], page[0], page[1], page[2], day) for day, pages in outs for page in pages)
        self.assertEqual([row[:2] for row in told], [(house, sort) for house, sort, own in some])
        for (house, sort, own), row in zip(some, told):
            self.assertEqual(row[2], row[4])
            self.assertIn(row[4], own)
            self.assertEqual(row[3], name)

    def check_followed(self, book, terms, day, name, outs, houses):
        """In the BOOK followed each DUE to a wanted house that isn't RUDE is answered on its day, and never RUDE."""
        told = followed(book, day, outs)
        second = Second(book, terms, day)
        paid = {page[3]: out for out, pages in outs for page in pages}
        wants = [due for due in second.dues() if due[0] == name and due[1] in houses and second.left(due) > 0]
        self.assertEqual({due[1] for due in wants}, houses)
        for later in range(day, max(paid.values()) + 1):
            left = {due[:4]: due[4] for due in dues(told, terms, later)}
            for due in wants:
                self.assertEqual(due[:4] in left, later < paid[due[1]])
                if due[:4] in left:
                    self.assertLess(len(left[due[:4]]), terms[due[2] == "card"])

    def test_plans(self):
        rng = random.Random(262)
        met = {}
        for _ in range(700):
            book, terms = draw_plan_book(rng), (rng.randint(4, 18), rng.randint(4, 12))
            kept = repr(book)
            day, most, far = rng.randint(8, 15), rng.randint(1, 4), rng.choice((3, 7, 28, 28))
            word = self.check_plan(book, terms, day, "ash", most, far)
            met[word] = met.get(word, 0) + 1
            self.assertEqual(repr(book), kept)
        self.assertEqual(len(met), 5, met)
        self.assertGreater(min(met.values()), 4, met)

    def test_plans_of_all_houses(self):
        rng = random.Random(263)
        for _ in range(60):
            book, terms, day = draw_walk_book(rng), draw_terms(rng), rng.randrange(35)
            homes = Second(book, terms, day).homes
            for name in NAMES[:6]:
                if name in homes:
                    self.check_plan(book, terms, day, name, rng.randint(1, 4), 28)
                else:
                    self.assertEqual(refusal(plan, book, terms, day, name, 2, 28).name, name)

    def test_home_worth(self):
        rng = random.Random(264)
        met = set()
        for _ in range(120):
            book, terms = draw_plan_book(rng), (rng.randint(4, 18), rng.randint(4, 12))
            kept = repr(book)
            # No GOING is on day 13 or 14.
            day, most, far = rng.choice((13, 14)), rng.randint(1, 4), rng.choice((7, 28))
            house = rng.choice(sorted(Second(book, terms, day).homes))
            right = home_worth_by_books(book, terms, day, "ash", most, far, house)
            if any(one is not None and one > 4 for one in right):
                self.assertEqual(outcome(home_worth, book, terms, day, "ash", most, far, house),
                                 "TooMany {'word': 'goings'}")
                met.add("many")
            else:
                self.assertEqual(repr(home_worth(book, terms, day, "ash", most, far, house)), repr(right))
                met |= set(right)
                met.add(len(set(right)) > 1 and "unlike")
            self.assertEqual(repr(book), kept)
        self.assertLessEqual({"many", None, "unlike", 1, 2, 3}, met)


if __name__ == "__main__":
    unittest.main()
