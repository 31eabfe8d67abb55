import itertools
import random
import unittest

from cardsback.errors import NoCrowd, TooMany
from cardsback.fewest import day_sets, fewest
from cardsback.serving import any_round
from cardsback.texts import cases_line
from cardsback.wants import all_days
from tests.things import NAMES, refusal
from tests.wantschecks import can_serve, draw_wants, drawn_wants, is_cases, is_crowd, is_round, least_goings, nodes_of

FAR = 10 ** 59
EDGES = ("ab", "bc", "ca", "de", "ef", "fd", "gh")


def wants_by_days(rows):
    """WANTS in which the names of row k have the day k."""
    names = sorted(set("".join(rows)))
    return tuple((name, tuple(day for day, row in enumerate(rows) if name in row)) for name in names)


class FewestTest(unittest.TestCase):
    def check(self, wants, most, many):
        """The fewest goings are so many, and CASES show it."""
        kept = repr(wants)
        told = fewest(wants, most)
        self.assertEqual((type(told), len(told)), (tuple, 2))
        found, cases = told
        self.assertTrue(is_round(wants, most, found), found)
        self.assertEqual(len(found), many)
        if many == 0:
            self.assertIsNone(cases)
        else:
            self.assertTrue(is_cases(wants, most, many - 1, cases), cases)
        self.assertEqual(repr(wants), kept)
        return cases

    def test_no_wants(self):
        for most in (1, 2, 3, 4):
            self.assertEqual(fewest((), most), ((), None))

    def test_one_going(self):
        self.check((("a", (3,)),), 1, 1)
        self.check((("a", (1, 3)), ("b", (3, 4)), ("c", (0, 3))), 3, 1)
        self.check((("a", (FAR,)), ("b", (0, FAR))), 2, 1)

    def test_names_apart(self):
        wants = (("a", (1, 2)), ("b", (3, 4)), ("c", (5,)), ("d", (6, 7, 8)))
        for most in (1, 4):
            self.check(wants, most, 4)

    def test_no_room(self):
        wants = tuple((name, (1, 2, 3, 4, 5)) for name in "abcdefgh")
        for most, many in ((2, 4), (3, 3), (4, 2)):
            self.check(wants, most, many)
        self.check(wants[:4], 1, 4)
        self.check(wants[:7], 2, 4)

    def test_more_than_names_apart_and_room_tell(self):
        # Each two of three names share a day, which the third one has not.
        wants = wants_by_days(("ab", "bc", "ca"))
        self.check(wants, 4, 2)
        cases = self.check(wants_by_days(("ab", "bc", "ca", "de", "ef", "fd")), 4, 4)
        self.assertIn("more", [node[0] for node in nodes_of(cases)])

    def test_places_count(self):
        # Day 0 would do for all, but holds so many only; the rest then wants days of its own.
        wants = wants_by_days(("abcd", "ab", "cd"))
        self.check(wants, 4, 1)
        self.check(wants, 3, 2)
        self.check(wants, 2, 2)
        self.check(wants_by_days(("abcdef", "ab", "ab", "cd", "ef")), 2, 3)

    def test_five_goings_are_too_many(self):
        apart = tuple((name, (k,)) for k, name in enumerate("abcde"))
        full = tuple((name, tuple(range(10))) for name in "abcde")
        rings = wants_by_days(EDGES)
        for wants, most in ((apart, 4), (full, 1), (rings, 4), (apart + (("f", (9,)), ("g", (8,)), ("h", (7,))), 1)):
            error = refusal(fewest, wants, most)
            self.assertIs(type(error), TooMany)
            self.assertEqual(error.word, "goings")

    def test_no_crowd_with_a_crowd(self):
        for wants, most in (((("a", ()),), 4), ((("a", (1,)), ("b", (1,))), 1), ((("a", (1, 2)), ("b", ())), 2),
                            (tuple((name, (3,)) for name in "abcde"), 4)):
            error = refusal(fewest, wants, most)
            self.assertIs(type(error), NoCrowd)
            self.assertTrue(is_crowd(wants, most, error.names), error.names)

    def test_no_crowd_goes_ahead_of_too_many(self):
        # Five names apart, of which more than four goings would be wanted, and a crowd beside them.
        wants = tuple((name, (k,)) for k, name in enumerate("abcde")) + (("f", (9,)), ("g", (9,)))
        error = refusal(fewest, wants, 1)
        self.assertIs(type(error), NoCrowd)
        self.assertEqual(error.names, ("f", "g"))
        self.assertIs(type(refusal(fewest, wants, 2)), TooMany)

    def test_drawn_against_all_sets_of_days(self):
        met = {}
        for wants, most in drawn_wants(251, 500):
            many = least_goings(wants, most)
            met[many] = met.get(many, 0) + 1
            if many is None:
                error = refusal(fewest, wants, most)
                self.assertIs(type(error), NoCrowd)
                self.assertTrue(is_crowd(wants, most, error.names))
            elif many > 4:
                self.assertEqual(refusal(fewest, wants, most).word, "goings")
            else:
                self.check(wants, most, many)
        for many in (None, 0, 1, 2, 3, 4, 5):
            self.assertGreater(met.get(many, 0), 4, met)

    def test_drawn_pairs_and_triples(self):
        rng = random.Random(252)
        met = set()
        for _ in range(150):
            size, names = rng.choice((2, 3)), NAMES[:rng.randint(4, 6)]
            rows = [rng.sample(names, size) for _ in range(rng.randint(3, 7))]
            wants = tuple((name, tuple(day for day, row in enumerate(rows) if name in row)) for name in names)
            most = rng.randint(1, 4)
            many = least_goings(wants, most)
            if many is not None and many <= 4:
                cases = self.check(wants, most, many)
                met |= {node[0] for node in nodes_of(cases)}
        self.assertEqual(met, {"apart", "short", "more"})

    def test_eight_wants_with_28_unlike_days(self):
        rng = random.Random(253)
        met = set()
        for _ in range(60):
            days = sorted(rng.sample(range(2000), 28))
            share = rng.choice((0.1, 0.2, 0.3, 0.6))
            wants = tuple((name, tuple(day for day in days if rng.random() < share)) for name in NAMES[:8])
            most = rng.randint(2, 4)
            error = refusal(fewest, wants, most)
            if error is None:
                found = fewest(wants, most)[0]
                self.check(wants, most, len(found))
                met.add(len(found))
            else:
                met.add(type(error))
        self.assertLessEqual({2, 3, 4, TooMany}, met)

    def test_eight_wants_where_cases_are_many(self):
        # Two rings of three names and two names beside them, each pair with several days: 28 in all.
        rows = [row for row in EDGES for _ in range(4)]
        wants = wants_by_days(rows)
        self.assertEqual(len(all_days(wants)), 28)
        self.assertIs(type(refusal(fewest, wants, 4)), TooMany)
        cases = self.check(wants[:6], 4, 4)
        self.assertEqual(cases_line(cases).count("more"), sum(node[0] == "more" for node in nodes_of(cases)))
        self.assertGreater(len(nodes_of(cases)), 8)

    def test_a_day_more_and_a_want_fewer_turn_it_by_at_most_one(self):
        rng = random.Random(254)
        for _ in range(120):
            wants, most = draw_wants(rng, share=0.5), rng.randint(2, 4)
            if not wants or any_round(wants, most)[0] == "crowd" or refusal(fewest, wants, most):
                continue
            many = len(fewest(wants, most)[0])
            k = rng.randrange(len(wants))
            fewer = wants[:k] + wants[k + 1:]
            more = wants[:k] + ((wants[k][0], tuple(sorted({*wants[k][1], rng.randrange(24)}))),) + wants[k + 1:]
            for turned in (fewer, more):
                self.assertIn(many - len(fewest(turned, most)[0]), (0, 1))


class DaySetsTest(unittest.TestCase):
    def test_no_wants(self):
        self.assertEqual(day_sets((), 1, 0), [()])
        for many in (1, 2, 3, 4):
            self.assertEqual(day_sets((), 1, many), [])

    def test_some(self):
        wants = (("a", (1, 2)), ("b", (2, 5)))
        self.assertEqual(day_sets(wants, 1, 0), [])
        self.assertEqual(day_sets(wants, 1, 1), [])
        self.assertEqual(day_sets(wants, 2, 1), [(2,)])
        self.assertEqual(day_sets(wants, 1, 2), [(1, 2), (1, 5), (2, 5)])
        self.assertEqual(day_sets(wants, 1, 3), [(1, 2, 5)])
        self.assertEqual(day_sets(wants, 1, 4), [])

    def test_days_that_are_not_gone_on(self):
        self.assertEqual(day_sets((("a", (1,)), ("b", (1, 7, 9))), 2, 2), [(1, 7), (1, 9)])

    def test_a_crowd(self):
        for many in range(5):
            self.assertEqual(day_sets((("a", ()), ("b", (1, 2))), 4, many), [])

    def test_drawn(self):
        for wants, most in drawn_wants(255, 200):
            kept = repr(wants)
            days = sorted({day for name, own in wants for day in own})
            for many in range(5):
                right = [some for some in itertools.combinations(days, many) if can_serve(wants, most, some)]
                self.assertEqual(repr(day_sets(wants, most, many)), repr(right))
            self.assertEqual(repr(wants), kept)

    def test_twelve_days(self):
        wants = tuple((name, tuple(range(k, 12))) for k, name in enumerate("abcd"))
        told = day_sets(wants, 1, 4)
        self.assertEqual(told, sorted(told))
        self.assertEqual(len(told), sum(can_serve(wants, 1, some) for some in itertools.combinations(range(12), 4)))

    def test_the_list_is_the_askers_own(self):
        wants = (("a", (1, 2)),)
        day_sets(wants, 1, 1).clear()
        self.assertEqual(day_sets(wants, 1, 1), [(1,), (2,)])


if __name__ == "__main__":
    unittest.main()
