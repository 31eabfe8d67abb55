import itertools
import random
import unittest

from cardsback.errors import TooMany
from cardsback.letting import let_go
from cardsback.lettingchecker import lets_letting
from cardsback.ranking import ranked
from cardsback.ringsapart import lets_apart
from tests.things import NAMES, all_rings, draw_along, draw_sayings, outcome, refusal


def both_ways(*pairs):
    """SAYINGS of RINGS of two NAMES."""
    return tuple(sorted(saying for a, b in pairs for saying in ((a, b), (b, a))))


def fewest_gone(some, most=3):
    """How many SAYINGS must go, by all sets of up to so many gone through, or None where more must."""
    rings = [set(ring) for ring in all_rings(some)]
    for many in range(most + 1):
        for gone in itertools.combinations(some, many):
            if all(ring & set(gone) for ring in rings):
                return many
    return None


class LetGoTest(unittest.TestCase):
    def check(self, names, some, many):
        """So many SAYINGS are the fewest, and CASES show it."""
        kept = repr((names, some))
        told = let_go(names, some)
        self.assertEqual((type(told), len(told)), (tuple, 2))
        gone, cases = told
        self.assertIs(type(gone), tuple)
        self.assertEqual((len(gone), gone), (many, tuple(sorted(set(gone)))))
        self.assertLessEqual(set(gone), set(some))
        left = tuple(saying for saying in some if saying not in gone)
        self.assertEqual(ranked(names, left)[0], "order")
        if many == 0:
            self.assertIsNone(cases)
        else:
            self.assertIs(lets_letting(names, some, many - 1, cases), True)
            if many < 4:
                self.assertIsNotNone(refusal(lets_letting, names, some, many, cases))
        self.assertEqual(repr((names, some)), kept)
        return cases

    def check_too_many(self, names, some):
        error = refusal(let_go, names, some)
        self.assertIs(type(error), TooMany)
        self.assertEqual(vars(error), {"word": "gone"})

    def test_none_must_go(self):
        self.assertEqual(let_go((), ()), ((), None))
        self.assertEqual(let_go(("a", "b"), ()), ((), None))
        self.assertEqual(let_go(("a", "b", "c"), (("a", "b"), ("a", "c"), ("b", "c"))), ((), None))

    def test_one_ring(self):
        self.check(("a", "b"), both_ways("ab"), 1)
        some = (("a", "b"), ("b", "c"), ("c", "d"), ("d", "a"))
        self.check(("a", "b", "c", "d"), some, 1)
        self.check(("a", "b", "c", "d", "z"), some, 1)

    def test_rings_apart(self):
        names = ("a", "b", "c", "d", "e", "f", "g", "h")
        self.check(names, both_ways("ab", "cd"), 2)
        cases = self.check(names, both_ways("ab", "cd", "ef"), 3)
        self.assertEqual(lets_apart(names, both_ways("ab", "cd", "ef"), cases[1]), 3)
        self.check_too_many(names, both_ways("ab", "cd", "ef", "gh"))

    def test_rings_that_share_sayings(self):
        # Of a>b are all RINGS.
        some = (("a", "b"), ("b", "a"), ("b", "c"), ("b", "d"), ("c", "a"), ("d", "a"))
        self.check(("a", "b", "c", "d"), some, 1)
        self.assertEqual(let_go(("a", "b", "c", "d"), some)[0], (("a", "b"),))

    def test_more_than_any_rings_apart_are(self):
        some = tuple(sorted([("a", "b"), ("a", "d"), ("b", "d"), ("b", "f"), ("c", "a"), ("c", "d"), ("d", "a"),
                             ("d", "e"), ("e", "a"), ("e", "f"), ("f", "c")]))
        rings = sorted({frozenset(ring) for ring in all_rings(some)}, key=sorted)
        apart = [rows for rows in itertools.combinations(rings, 3)
                 if all(not one & other for one, other in itertools.combinations(rows, 2))]
        self.assertEqual((apart, fewest_gone(some)), ([], 3))
        cases = self.check(("a", "b", "c", "d", "e", "f"), some, 3)
        self.assertEqual(cases[0], "one")

    def test_all_sayings_of_three_names(self):
        some = both_ways("ab", "ac", "bc")
        self.check(("a", "b", "c"), some, 3)

    def test_all_sayings_of_four_names_are_too_many(self):
        self.check_too_many(("a", "b", "c", "d"), both_ways("ab", "ac", "ad", "bc", "bd", "cd"))

    def test_twelve_sayings_of_nine_names(self):
        row = NAMES + NAMES[:1]
        some = tuple(sorted([*zip(row, row[1:]), ("ab", "a"), ("ash", "abc"), ("birch", "b")]))
        self.assertEqual(len(some), 12)
        self.check(NAMES, some, 3)

    def test_drawn_against_all_sets(self):
        rng = random.Random(371)
        met = {}
        for _ in range(400):
            names = tuple(sorted(rng.sample(NAMES, rng.randint(0, 6))))
            draw = draw_along if rng.random() < 0.15 else draw_sayings
            some = draw(rng, names, rng.randint(0, 12))
            many = fewest_gone(some)
            met[many] = met.get(many, 0) + 1
            if many is None:
                self.check_too_many(names, some)
            else:
                self.check(names, some, many)
            self.assertEqual(outcome(let_go, names, some), outcome(let_go, names, some))
        for many in (None, 0, 1, 2, 3):
            self.assertGreater(met.get(many, 0), 10, met)

    def test_rings_apart_bound_it(self):
        rng = random.Random(373)
        for _ in range(150):
            some = draw_sayings(rng, NAMES[:5], rng.randint(4, 12))
            rings = all_rings(some)
            rng.shuffle(rings)
            apart = []
            for ring in rings:
                if not any(set(ring) & set(met) for met in apart):
                    apart.append(ring)
            many = lets_apart(NAMES[:5], some, tuple(apart))
            if refusal(let_go, NAMES[:5], some) is None:
                self.assertLessEqual(many, len(let_go(NAMES[:5], some)[0]))

    def test_each_form_of_node_is_told(self):
        rng = random.Random(372)
        forms = set()
        for _ in range(300):
            some = draw_sayings(rng, NAMES[:5], rng.randint(6, 12))
            if refusal(let_go, NAMES[:5], some) is None:
                cases = let_go(NAMES[:5], some)[1]
                forms.add(cases and cases[0])
        self.assertEqual(forms, {None, "rings", "one"})


if __name__ == "__main__":
    unittest.main()
