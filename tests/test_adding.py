import itertools
import unittest

from cardsback.adding import between, places, would_ring
from cardsback.errors import NoOrder
from cardsback.ranking import goes_ahead, ranked
from tests.test_ranking import all_orders
from tests.things import all_rings, drawn_lists, is_way, refusal


class WouldRingTest(unittest.TestCase):
    def test_a_saying_that_is_not_there(self):
        some = (("a", "b"), ("b", "c"))
        names = ("a", "b", "c", "d")
        self.assertEqual(sorted(would_ring(names, some, ("c", "a"))), [("a", "b"), ("b", "c"), ("c", "a")])
        self.assertEqual(sorted(would_ring(names, some, ("b", "a"))), [("a", "b"), ("b", "a")])
        self.assertIsNone(would_ring(names, some, ("a", "c")))
        self.assertIsNone(would_ring(names, some, ("d", "a")))
        self.assertIsNone(would_ring(names, (), ("a", "b")))

    def test_a_saying_that_is_there(self):
        some = (("a", "b"), ("b", "c"), ("c", "b"))
        names = ("a", "b", "c")
        self.assertIsNone(would_ring(names, some, ("a", "b")))
        self.assertEqual(sorted(would_ring(names, some, ("b", "c"))), [("b", "c"), ("c", "b")])

    def test_a_ring_without_the_saying_is_none(self):
        some = (("b", "c"), ("c", "b"))
        self.assertIsNone(would_ring(("a", "b", "c"), some, ("a", "b")))
        self.assertIsNone(would_ring(("a", "b", "c"), some, ("c", "a")))

    def test_drawn(self):
        for names, some in drawn_lists(61, 150):
            kept = repr((names, some))
            for pair in itertools.permutations(names, 2):
                together = tuple(sorted(set(some + (pair,))))
                right = [ring for ring in all_rings(together) if pair in ring]
                told = would_ring(names, some, pair)
                if right:
                    self.assertIn(told, right)
                else:
                    self.assertIsNone(told)
            self.assertEqual(repr((names, some)), kept)


class BetweenTest(unittest.TestCase):
    def test_ordinary(self):
        names = ("a", "b", "c", "d", "e")
        some = (("a", "c"), ("a", "d"), ("b", "a"), ("c", "e"), ("d", "e"))
        self.assertEqual(between(names, some, "a", "e"), ("c", "d"))
        self.assertEqual(between(names, some, "b", "e"), ("a", "c", "d"))
        self.assertEqual(between(names, some, "a", "c"), ())
        self.assertEqual(between(names, some, "e", "a"), ())
        self.assertEqual(between(names, (), "a", "b"), ())

    def test_with_a_ring(self):
        names = ("a", "b", "c", "d")
        some = (("a", "b"), ("b", "c"), ("c", "a"), ("c", "d"))
        self.assertEqual(between(names, some, "a", "b"), ("c",))
        self.assertEqual(between(names, some, "a", "d"), ("b", "c"))
        self.assertEqual(between(names, some, "b", "a"), ("c",))
        self.assertEqual(between(names, some, "d", "a"), ())

    def test_by_ways_drawn(self):
        for names, some in drawn_lists(62, 100, 9, 20):
            kept = repr((names, some))
            for a, b in itertools.permutations(names, 2):
                right = tuple(c for c in names if c not in (a, b) and goes_ahead(names, some, a, c)
                              and goes_ahead(names, some, c, b))
                told = between(names, some, a, b)
                self.assertEqual(repr(told), repr(right))
            self.assertEqual(repr((names, some)), kept)

    def test_by_all_orders_drawn(self):
        for names, some in drawn_lists(63, 60, 5, 8):
            orders = all_orders(names, some)
            if not orders:
                continue
            for a, b in itertools.permutations(names, 2):
                if goes_ahead(names, some, a, b) is None:
                    self.assertEqual(between(names, some, a, b), ())
                    continue
                right = tuple(c for c in names if c not in (a, b) and all(
                    order.index(a) < order.index(c) < order.index(b) for order in orders))
                self.assertEqual(between(names, some, a, b), right)


class PlacesTest(unittest.TestCase):
    def test_ordinary(self):
        names = ("a", "b", "c", "d")
        some = (("a", "b"), ("b", "c"))
        self.assertEqual([places(names, some, name) for name in names], [(0, 1), (1, 2), (2, 3), (0, 3)])
        self.assertEqual(places(("a",), (), "a"), (0, 0))
        self.assertEqual(places(("a", "b"), (("b", "a"),), "a"), (1, 1))

    def test_no_order(self):
        names = ("a", "b", "c")
        some = (("b", "c"), ("c", "b"))
        for name in names:
            error = refusal(places, names, some, name)
            self.assertIs(type(error), NoOrder)
            self.assertEqual(sorted(error.ring), list(some))

    def test_drawn_against_all_orders(self):
        for names, some in drawn_lists(64, 150):
            kept = repr((names, some))
            orders = all_orders(names, some)
            for name in names:
                if not orders:
                    error = refusal(places, names, some, name)
                    self.assertIs(type(error), NoOrder)
                    self.assertTrue(is_way(some, error.ring[0][0], error.ring[0][0], error.ring))
                    continue
                at = [order.index(name) for order in orders]
                told = places(names, some, name)
                self.assertEqual(repr(told), repr((min(at), max(at))))
            self.assertEqual(repr((names, some)), kept)

    def test_asked_again_behind_other_questions(self):
        rows = list(drawn_lists(65, 30))
        first = [repr(ranked(names, some)) for names, some in rows]
        for names, some in rows:
            for a, b in itertools.permutations(names, 2):
                goes_ahead(names, some, a, b), would_ring(names, some, (a, b)), between(names, some, a, b)
        self.assertEqual([repr(ranked(names, some)) for names, some in rows], first)


if __name__ == "__main__":
    unittest.main()
