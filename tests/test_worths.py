import random
import unittest

from cardsback.errors import TooMany
from cardsback.fewest import fewest
from cardsback.wants import all_days, with_day, without_want
from cardsback.worths import day_worth, place_worth, want_worth
from tests.things import outcome, refusal
from tests.wantschecks import draw_wants, least_goings

WANTS = (("a", (1, 2)), ("b", (3,)), ("c", (2, 5)))
APART = tuple((name, (2 * k,)) for k, name in enumerate("abcde"))
TOO_MANY = "TooMany {'word': 'goings'}"


def worth_outcome(many):
    """What is told of these fewest, one for each question."""
    return TOO_MANY if any(one is not None and one > 4 for one in many) else repr(tuple(many))


class DayWorthTest(unittest.TestCase):
    def test_each_sort_of_day(self):
        self.assertEqual(len(fewest(WANTS, 2)[0]), 2)
        # One that the name has, one of another's, one that nobody has.
        self.assertEqual(day_worth(WANTS, 2, "b", (3,)), (2,))
        self.assertEqual(day_worth(WANTS, 3, "b", (2,)), (1,))
        self.assertEqual(day_worth(WANTS, 3, "b", (9,)), (2,))
        self.assertEqual(day_worth(WANTS, 3, "b", (0, 1, 2, 3, 5, 10 ** 59)), (2, 2, 1, 2, 2, 2))

    def test_no_days_and_days_told_twice(self):
        self.assertEqual(day_worth(WANTS, 2, "a", ()), ())
        self.assertEqual(day_worth(WANTS, 3, "b", (2, 2, 9, 2)), (1, 1, 2, 1))
        self.assertEqual(day_worth(WANTS, 3, "b", (9, 2, 3)), (2, 1, 2))

    def test_none_where_no_round_is(self):
        wants = (("a", (1,)), ("b", (1,)), ("c", (1,)))
        self.assertEqual(day_worth(wants, 1, "a", (1, 2)), (None, None))
        self.assertEqual(day_worth(wants[:2], 1, "a", (1, 2)), (None, 2))
        self.assertEqual(day_worth((("a", ()), ("b", (4,))), 2, "a", (3, 4)), (2, 1))
        self.assertEqual(day_worth((("a", ()), ("b", ())), 2, "a", (3, 4)), (None, None))

    def test_too_many(self):
        self.assertEqual(day_worth(APART, 2, "e", (0,)), (4,))
        for days in ((9,), (8,), (0, 9), (9, 0), (0, 2, 4, 8)):
            error = refusal(day_worth, APART, 2, "e", days)
            self.assertIs(type(error), TooMany)
            self.assertEqual(vars(error), {"word": "goings"})
        self.assertEqual(day_worth(APART, 2, "e", ()), ())

    def test_too_many_beside_none(self):
        wants = APART + (("f", ()),)
        self.assertEqual(day_worth(wants, 1, "a", (0, 9)), (None, None))
        self.assertEqual(outcome(day_worth, wants, 1, "f", (0, 20)), TOO_MANY)
        self.assertEqual(outcome(day_worth, wants, 1, "f", (0,)), "(None,)")
        self.assertEqual(outcome(day_worth, wants, 1, "f", (20,)), TOO_MANY)


class WantWorthTest(unittest.TestCase):
    def test_by_numbers(self):
        self.assertEqual(want_worth((), 1), ())
        self.assertEqual(want_worth((("a", (1,)),), 1), (0,))
        self.assertEqual(want_worth(WANTS, 3), (2, 1, 2))
        self.assertEqual(want_worth(WANTS, 1), (2, 2, 2))

    def test_none_where_no_round_is(self):
        self.assertEqual(want_worth((("a", (1,)), ("b", ())), 1), (None, 1))
        self.assertEqual(want_worth((("a", ()), ("b", ())), 1), (None, None))
        self.assertEqual(want_worth((("a", (1,)), ("b", (1,)), ("c", (2,))), 1), (2, 2, None))

    def test_too_many(self):
        self.assertEqual(want_worth(APART, 1), (4, 4, 4, 4, 4))
        error = refusal(want_worth, APART + (("f", (0,)),), 2)
        self.assertIs(type(error), TooMany)
        self.assertEqual(vars(error), {"word": "goings"})
        # Only without b a ROUND is at all, and this one is too long.
        wants = (("a", (0,)), ("b", ()), ("c", (2,)), ("d", (4,)), ("e", (6,)), ("f", (8,)))
        self.assertEqual(outcome(want_worth, wants, 1), TOO_MANY)


class PlaceWorthTest(unittest.TestCase):
    def test_for_each_most(self):
        self.assertEqual(place_worth(()), (0, 0, 0, 0))
        self.assertEqual(place_worth(WANTS), (3, 2, 2, 2))
        wants = tuple((name, (1, 2, 3, 4, 5)) for name in "abcd")
        self.assertEqual(place_worth(wants), (4, 2, 2, 1))

    def test_none_where_no_round_is(self):
        self.assertEqual(place_worth((("a", ()),)), (None,) * 4)
        self.assertEqual(place_worth(tuple((name, (1,)) for name in "abc")), (None, None, 1, 1))
        self.assertEqual(place_worth(tuple((name, (1, 9)) for name in "abcdefgh")), (None, None, None, 2))

    def test_too_many(self):
        wants = tuple((name, (1, 2, 3, 4, 5)) for name in "abcde")
        error = refusal(place_worth, wants)
        self.assertIs(type(error), TooMany)
        self.assertEqual(vars(error), {"word": "goings"})
        self.assertEqual(place_worth(tuple((name, (1, 2, 3, 4)) for name in "abcde")), (None, 3, 2, 2))


class DrawnTest(unittest.TestCase):
    def test_against_all_sets_of_days(self):
        rng = random.Random(421)
        met = {}
        for _ in range(150):
            wants, most = draw_wants(rng, days=6) or (("a", (3,)),), rng.randint(1, 4)
            kept = repr(wants)
            name = rng.choice(wants)[0]
            days = tuple(rng.choice(range(20)) for _ in range(rng.randint(0, 4)))
            rows = [(outcome(day_worth, wants, most, name, days),
                     [least_goings(with_day(wants, name, day), most) for day in days]),
                    (outcome(want_worth, wants, most),
                     [least_goings(without_want(wants, other), most) for other, own in wants]),
                    (outcome(place_worth, wants), [least_goings(wants, places) for places in (1, 2, 3, 4)])]
            for told, many in rows:
                self.assertEqual(told, worth_outcome(many))
                met["too many" if told == TOO_MANY else "None" if "None" in told else "told"] = True
            self.assertEqual(repr(wants), kept)
        self.assertEqual(len(met), 3)

    def test_a_day_more_a_want_fewer_more_places(self):
        rng = random.Random(422)
        met = {"day": set(), "want": set(), "places": set()}
        for _ in range(300):
            wants, most = draw_wants(rng, names=7, days=10), rng.randint(1, 4)
            if not wants or refusal(fewest, wants, most) is not None:
                continue
            many = len(fewest(wants, most)[0])
            name = rng.choice(wants)[0]
            days = all_days(wants) + (50,)
            met["day"] |= {many - fewer for fewer in day_worth(wants, most, name, days)}
            met["want"] |= {many - fewer for fewer in want_worth(wants, most)}
            rest = [len(fewest(wants, places)[0]) for places in range(most, 5)]
            met["places"] |= {one - other for one, other in zip(rest, rest[1:])}
        self.assertEqual((met["day"], met["want"]), ({0, 1}, {0, 1}))
        self.assertGreaterEqual(min(met["places"]), 0)
        self.assertIn(1, met["places"])

    def test_a_day_that_the_name_has_turns_nothing(self):
        rng = random.Random(423)
        for _ in range(100):
            wants, most = draw_wants(rng), rng.randint(1, 4)
            for name, days in wants:
                if refusal(fewest, wants, most) is None:
                    self.assertEqual(day_worth(wants, most, name, days), (len(fewest(wants, most)[0]),) * len(days))


if __name__ == "__main__":
    unittest.main()
