import itertools
import random
import unittest

from cardsback.ranking import goes_ahead, ranked
from tests.things import NAMES, all_rings, draw_along, draw_sayings, drawn_lists, is_way


def is_order(names, some, thing):
    """Whether a thing is an ORDER, by point 42."""
    return (type(thing) is tuple and sorted(thing) == list(names)
            and all(thing.index(a) < thing.index(b) for a, b in some))


def all_orders(names, some):
    return [order for order in itertools.permutations(names) if is_order(names, some, order)]


class RankedTest(unittest.TestCase):
    def test_no_names(self):
        self.assertEqual(ranked((), ()), ("order", ()))

    def test_one_name(self):
        self.assertEqual(ranked(("ash",), ()), ("order", ("ash",)))

    def test_no_sayings(self):
        self.assertEqual(ranked(NAMES, ()), ("order", NAMES))

    def test_along_an_order(self):
        row = ("z", "ab", "a", "fern", "b", "abc", "elm", "birch", "ash")
        some = tuple(sorted(zip(row, row[1:])))
        self.assertEqual(ranked(NAMES, some), ("order", row))
        every = tuple(sorted((row[j], row[k]) for k in range(9) for j in range(k)))
        self.assertEqual(ranked(NAMES, every), ("order", row))

    def test_least_free_name_at_each_place(self):
        self.assertEqual(ranked(("a", "b", "c"), (("c", "a"),)), ("order", ("b", "c", "a")))
        self.assertEqual(ranked(("a", "ab", "b"), (("b", "a"),)), ("order", ("ab", "b", "a")))
        self.assertEqual(ranked(("a", "b", "c", "d"), (("b", "a"), ("d", "c"))), ("order", ("b", "a", "d", "c")))

    def test_names_that_begin_one_another(self):
        names = ("a", "aa", "aaa", "ab")
        self.assertEqual(ranked(names, (("ab", "a"),)), ("order", ("aa", "aaa", "ab", "a")))

    def test_ring_of_two(self):
        some = (("a", "b"), ("b", "a"))
        word, ring = ranked(("a", "b", "c"), some)
        self.assertEqual(word, "ring")
        self.assertIn(ring, (some, some[::-1]))

    def test_ring_of_all(self):
        some = tuple(sorted(zip(NAMES, NAMES[1:] + NAMES[:1])))
        word, ring = ranked(NAMES, some)
        self.assertEqual(word, "ring")
        self.assertEqual(sorted(ring), list(some))
        self.assertTrue(is_way(some, ring[0][0], ring[0][0], ring))

    def test_ring_behind_names_that_are_free(self):
        names = ("a", "b", "c", "d", "e")
        some = (("a", "b"), ("b", "c"), ("c", "d"), ("d", "c"), ("d", "e"))
        word, ring = ranked(names, some)
        self.assertEqual((word, sorted(ring)), ("ring", [("c", "d"), ("d", "c")]))

    def test_ring_ahead_of_names_that_go_in_none(self):
        names = ("a", "b", "c")
        word, ring = ranked(names, (("b", "a"), ("b", "c"), ("c", "b")))
        self.assertEqual((word, sorted(ring)), ("ring", [("b", "c"), ("c", "b")]))

    def test_all_seventy_two(self):
        some = tuple((a, b) for a in NAMES for b in NAMES if a != b)
        word, ring = ranked(NAMES, some)
        self.assertEqual((len(some), word), (72, "ring"))
        self.assertTrue(is_way(some, ring[0][0], ring[0][0], ring))

    def test_just_one_of_both_drawn(self):
        for names, some in drawn_lists(51, 250):
            kept = repr((names, some))
            told = ranked(names, some)
            self.assertEqual([type(told), len(told)], [tuple, 2])
            orders = all_orders(names, some)
            rings = all_rings(some)
            self.assertNotEqual(bool(orders), bool(rings))
            if orders:
                self.assertEqual(told, ("order", min(orders)))
            else:
                self.assertEqual(told[0], "ring")
                self.assertIn(told[1], rings)
            self.assertEqual(repr(ranked(names, some)), repr(told))
            self.assertEqual(repr((names, some)), kept)

    def test_nine_names_drawn(self):
        rng = random.Random(52)
        for _ in range(150):
            along = draw_along(rng, NAMES, rng.randint(0, 36))
            word, order = ranked(NAMES, along)
            self.assertEqual(word, "order")
            self.assertTrue(is_order(NAMES, along, order))
            for k, name in enumerate(order):
                left = order[k:]
                free = [one for one in left if not any((other, one) in along for other in left)]
                self.assertEqual(name, min(free))
            some = draw_sayings(rng, NAMES, rng.randint(0, 72))
            word, told = ranked(NAMES, some)
            if word == "ring":
                self.assertTrue(is_way(some, told[0][0], told[0][0], told))
            else:
                self.assertTrue(is_order(NAMES, some, told))


class GoesAheadTest(unittest.TestCase):
    def test_ways(self):
        some = (("a", "b"), ("b", "c"), ("d", "b"))
        names = ("a", "b", "c", "d")
        self.assertEqual(goes_ahead(names, some, "a", "b"), (("a", "b"),))
        self.assertEqual(goes_ahead(names, some, "a", "c"), (("a", "b"), ("b", "c")))
        self.assertEqual(goes_ahead(names, some, "d", "c"), (("d", "b"), ("b", "c")))
        for a, b in (("c", "a"), ("b", "a"), ("a", "d"), ("a", "a"), ("c", "c")):
            self.assertIsNone(goes_ahead(names, some, a, b))

    def test_one_name_twice(self):
        some = (("a", "b"), ("b", "c"), ("c", "a"), ("c", "d"))
        names = ("a", "b", "c", "d")
        for k, name in enumerate("abc"):
            self.assertEqual(goes_ahead(names, some, name, name), some[k:3] + some[:k])
        self.assertIsNone(goes_ahead(names, some, "d", "d"))
        self.assertEqual(goes_ahead(names, some, "a", "d"), (("a", "b"), ("b", "c"), ("c", "d")))

    def test_no_sayings(self):
        self.assertIsNone(goes_ahead(("a",), (), "a", "a"))
        self.assertIsNone(goes_ahead(("a", "b"), (), "a", "b"))

    def test_each_two_drawn(self):
        for names, some in drawn_lists(53, 120, 9, 24):
            kept = repr((names, some))
            reached = self.reached(names, some)
            for a, b in itertools.product(names, repeat=2):
                told = goes_ahead(names, some, a, b)
                if (a, b) in reached:
                    self.assertTrue(is_way(some, a, b, told), (some, a, b, told))
                else:
                    self.assertIsNone(told)
            self.assertEqual(repr((names, some)), kept)

    def reached(self, names, some):
        """The pairs of NAMES that WAYS lead between: pairs put together until none is new."""
        pairs = set(some)
        for c, a, b in itertools.product(names, repeat=3):
            if (a, c) in pairs and (c, b) in pairs:
                pairs.add((a, b))
        return pairs


if __name__ == "__main__":
    unittest.main()
