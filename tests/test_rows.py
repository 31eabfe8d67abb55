import random
import unittest

from cardsback.errors import TooMany
from cardsback.fewest import fewest
from cardsback.rounds import lets_round
from cardsback.rows import in_a_row, row_round
from tests.things import NAMES, refusal
from tests.wantschecks import days_together, draw_wants, least_goings, rises

FAR = 10 ** 59


def draw_rows(rng, names, days):
    """WANTS whose days are in a row, drawn."""
    wants = []
    for name in sorted(rng.sample(NAMES, rng.randint(0, names))):
        first = rng.randrange(days)
        wants.append((name, tuple(range(first, min(first + rng.randint(1, 5), days)))))
    return tuple(wants)


class InARowTest(unittest.TestCase):
    def test_in_a_row(self):
        for wants in ((), (("a", (0,)),), (("a", (3, 4, 5)),), (("a", (3,)), ("b", (0, 1)), ("c", (9, 10, 11, 12))),
                      (("a", (FAR, FAR + 1)),), (("a", (9999, 10000)),)):
            self.assertIs(in_a_row(wants), True, wants)

    def test_gaps(self):
        for wants in ((("a", (0, 2)),), (("a", (1, 2, 4)),), (("a", (1,)), ("b", (1, 3))), (("a", (0, FAR)),),
                      (("a", (1, 3, 4)), ("b", (2,)))):
            self.assertIs(in_a_row(wants), False, wants)

    def test_a_want_without_days(self):
        self.assertIs(in_a_row((("a", ()),)), False)
        self.assertIs(in_a_row((("a", (1,)), ("b", ()))), False)

    def test_drawn(self):
        rng = random.Random(411)
        told = []
        for _ in range(300):
            wants = rng.choice((draw_rows(rng, 4, 9), draw_wants(rng, names=3, share=0.9), draw_wants(rng, names=2)))
            right = all(days and set(days) == set(range(min(days), max(days) + 1)) for name, days in wants)
            told.append(in_a_row(wants))
            self.assertIs(told[-1], right)
        self.assertGreater(min(told.count(True), told.count(False)), 50)


class RowRoundTest(unittest.TestCase):
    def check(self, wants, many=None):
        """A ROUND with as many goings as names apart."""
        kept = repr(wants)
        told = row_round(wants)
        self.assertEqual((type(told), len(told)), (tuple, 2))
        found, some = told
        self.assertEqual(lets_round(wants, max(len(wants), 1), found), len(found))
        self.assertEqual((type(some), len(some)), (tuple, len(found)))
        self.assertTrue(rises(some))
        self.assertLessEqual(set(some), set(dict(wants)))
        self.assertEqual(len(days_together(wants, some)), sum(len(dict(wants)[name]) for name in some))
        if many is not None:
            self.assertEqual(len(found), many)
        self.assertEqual(repr(wants), kept)

    def test_no_wants(self):
        self.assertEqual(row_round(()), ((), ()))

    def test_one_day_alone(self):
        self.assertEqual(row_round((("a", (7,)),)), (((7, ("a",)),), ("a",)))
        self.check((("a", (7,)), ("b", (7,)), ("c", (8,))), 2)

    def test_some(self):
        self.check((("a", (1, 2, 3)), ("b", (3, 4)), ("c", (4, 5))), 2)
        self.check((("a", (1, 2, 3)), ("b", (3, 4)), ("c", (3, 4, 5))), 1)
        self.check((("a", (1, 2)), ("b", (3, 4)), ("c", (5, 6))), 3)
        self.check((("a", tuple(range(20))), ("b", (3,)), ("c", (18, 19))), 2)
        self.check((("a", (FAR, FAR + 1)), ("b", (FAR + 1, FAR + 2)), ("c", (0,))), 2)

    def test_days_that_touch(self):
        self.check((("a", (1, 2)), ("b", (2, 3))), 1)
        self.check((("a", (1, 2)), ("b", (3, 4))), 2)
        self.check((("a", (3, 4)), ("b", (1, 2))), 2)

    def test_more_than_four_goings_and_names_in_one(self):
        self.check(tuple((name, (3 * k, 3 * k + 1)) for k, name in enumerate(NAMES[:8])), 8)
        self.check(tuple((name, tuple(range(k, 9))) for k, name in enumerate(NAMES[:8])), 1)

    def test_too_many(self):
        for wants in ((("a", (0, 2)),), (("a", ()),), (("a", (1,)), ("b", (1, 3))), (("a", (1,)), ("b", ()))):
            error = refusal(row_round, wants)
            self.assertIs(type(error), TooMany)
            self.assertEqual(vars(error), {"word": "gaps"})

    def test_drawn_against_all_sets_of_days(self):
        rng = random.Random(412)
        met = set()
        for _ in range(150):
            wants = draw_rows(rng, 5, 9)
            many = least_goings(wants, max(len(wants), 1))
            met.add(many)
            self.check(wants, many)
        self.assertLessEqual({0, 1, 2, 3}, met)

    def test_drawn_of_eight_wants(self):
        rng = random.Random(413)
        for _ in range(150):
            wants = draw_rows(rng, 8, 28)
            self.check(wants)
            # Where four places are enough it is what the fewest are.
            if len(wants) <= 4:
                self.assertEqual(len(row_round(wants)[0]), len(fewest(wants, 4)[0]))

    def test_in_a_row_or_refused(self):
        rng = random.Random(414)
        for _ in range(150):
            wants = draw_wants(rng, names=3, share=0.8)
            self.assertEqual(refusal(row_round, wants) is None, in_a_row(wants))

    def test_with_gaps_the_fewest_may_be_more_than_names_apart(self):
        wants = (("a", (1, 3)), ("b", (1, 2)), ("c", (2, 3)))
        self.assertEqual(len(fewest(wants, 4)[0]), 2)
        for one, other in (("a", "b"), ("a", "c"), ("b", "c")):
            self.assertTrue(days_together(wants, (one,)) & days_together(wants, (other,)))


if __name__ == "__main__":
    unittest.main()
