import itertools
import random
import unittest

from cardsback.errors import NoPaper
from cardsback.ranking import ranked
from cardsback.ringchecker import lets_order, lets_ring
from tests.things import ANY_THINGS, NAMES, all_rings, drawn_lists, outcome, twice_varied, variants

LIST = ("a", "b", "c", "d")
ALONG = (("a", "b"), ("b", "c"), ("b", "d"))
ROUND = (("a", "b"), ("b", "a"), ("b", "c"), ("c", "a"), ("c", "d"), ("d", "b"))


def refused(word, *path):
    return f"NoPaper {({'word': word, 'path': path})!r}"


def order_outcome(names, some, thing):
    """What lets_order has to tell: all faults in their order, the first one taken."""
    if type(thing) is not tuple or len(thing) != len(names):
        return refused("shape")
    texts = [repr(part) for part in thing]
    faults = [refused("name", k) for k in range(len(thing))
              if texts[k] not in [repr(name) for name in names] or texts[k] in texts[:k]]
    if not faults:
        faults = [refused("saying", k) for k, (a, b) in enumerate(some)
                  if texts.index(repr(b)) < texts.index(repr(a))]
    return (faults + ["True"])[0]


def ring_outcome(some, thing):
    """What lets_ring has to tell: all faults in their order, the first one taken."""
    if type(thing) is not tuple or repr(thing) == "()":
        return refused("shape")
    known = [repr(saying) for saying in some]
    faults = [refused("saying", k) for k, part in enumerate(thing) if repr(part) not in known]
    if not faults:
        firsts = [part[0] for part in thing]
        seconds = [part[1] for part in thing]
        ahead = seconds[-1:] + seconds[:-1]
        faults = [refused("link", k) for k in range(len(thing)) if firsts[k] != ahead[k]]
        faults += [refused("twice", k) for k in range(len(thing)) if firsts.index(firsts[k]) != k]
    return (faults + ["True"])[0]


class LetsOrderTest(unittest.TestCase):
    def test_orders(self):
        for order in (("a", "b", "c", "d"), ("a", "b", "d", "c")):
            self.assertIs(lets_order(LIST, ALONG, order), True)
        self.assertIs(lets_order((), (), ()), True)
        self.assertIs(lets_order(NAMES, (), NAMES[::-1]), True)

    def check(self, thing, word, *path):
        with self.assertRaises(NoPaper) as caught:
            lets_order(LIST, ALONG, thing)
        self.assertEqual(repr((caught.exception.word, caught.exception.path)), repr((word, path)))

    def test_shape(self):
        for thing in ((), ("a", "b", "c"), ("a", "b", "c", "d", "a"), ["a", "b", "c", "d"], None, "abcd", True, 4,
                      {"a": 0, "b": 1, "c": 2, "d": 3}):
            self.check(thing, "shape")

    def test_name(self):
        self.check(("e", "b", "c", "d"), "name", 0)
        self.check(("a", "b", "a", "d"), "name", 2)
        self.check(("a", "b", "c", "c"), "name", 3)
        self.check(("a", ["b"], "c", "d"), "name", 1)
        self.check(("a", "b", {}, "d"), "name", 2)
        self.check((None, True, 0, ()), "name", 0)

    def test_saying(self):
        self.check(("b", "a", "c", "d"), "saying", 0)
        self.check(("a", "c", "b", "d"), "saying", 1)
        self.check(("a", "d", "b", "c"), "saying", 2)

    def test_the_first_of_two_faults(self):
        self.check(("e", "b", "c"), "shape")
        self.check(("b", "a", "c", "c"), "name", 3)
        self.check(("a", "x", "a", "d"), "name", 1)
        self.check(("d", "c", "b", "a"), "saying", 0)
        self.check(("a", "d", "c", "b"), "saying", 1)

    def test_where_a_ring_is_no_order_is_let_by(self):
        for order in itertools.permutations(LIST):
            self.assertNotEqual(outcome(lets_order, LIST, ROUND, order), "True")

    def test_things_of_every_kind_in_every_place(self):
        rng = random.Random(71)
        things = list(variants(("a", "b", "c", "d"))) + list(twice_varied(rng, ("a", "b", "d", "c"), 200))
        for thing in things + list(itertools.product("abcde", repeat=4)):
            for some in ((), ALONG, ROUND):
                kept = repr((some, thing))
                told = outcome(lets_order, LIST, some, thing)
                self.assertEqual(told, order_outcome(LIST, some, thing), repr(thing)[:80])
                self.assertEqual(repr((some, thing)), kept)

    def test_list_of_none(self):
        for thing in ANY_THINGS:
            self.assertEqual(outcome(lets_order, (), (), thing), order_outcome((), (), thing))

    def test_drawn(self):
        rng = random.Random(72)
        for names, some in drawn_lists(73, 150, 9, 20):
            word, told = ranked(names, some)
            if word == "order":
                self.assertIs(lets_order(names, some, told), True)
            for _ in range(5):
                thing = tuple(rng.sample(names, len(names)))
                self.assertEqual(outcome(lets_order, names, some, thing), order_outcome(names, some, thing))


class LetsRingTest(unittest.TestCase):
    def test_rings(self):
        for ring in ((("a", "b"), ("b", "a")), (("b", "a"), ("a", "b")), (("b", "c"), ("c", "d"), ("d", "b"))):
            self.assertIs(lets_ring(LIST, ROUND, ring), True)

    def test_begun_elsewhere(self):
        ring = (("a", "b"), ("b", "c"), ("c", "a"))
        for k in range(3):
            self.assertIs(lets_ring(LIST, ROUND, ring[k:] + ring[:k]), True)

    def check(self, thing, word, *path):
        with self.assertRaises(NoPaper) as caught:
            lets_ring(LIST, ROUND, thing)
        self.assertEqual(repr((caught.exception.word, caught.exception.path)), repr((word, path)))

    def test_shape(self):
        for thing in ((), [], [("a", "b"), ("b", "a")], None, "ab", True, 0, {}, {("a", "b"): 0}):
            self.check(thing, "shape")

    def test_saying(self):
        self.check((("a", "c"), ("c", "a")), "saying", 0)
        self.check((("a", "b"), ["b", "a"]), "saying", 1)
        self.check((("a", "b"), ("b", "c"), "ca"), "saying", 2)
        self.check((("a", "b"), ("b", "a", "a")), "saying", 1)
        self.check(((),), "saying", 0)
        self.check((None,), "saying", 0)
        self.check(("a", "b"), "saying", 0)

    def test_link(self):
        self.check((("a", "b"),), "link", 0)
        self.check((("a", "b"), ("c", "a")), "link", 1)
        self.check((("a", "b"), ("b", "c")), "link", 0)
        self.check((("a", "b"), ("b", "c"), ("d", "b"), ("b", "a")), "link", 2)

    def test_twice(self):
        self.check((("a", "b"), ("b", "a"), ("a", "b"), ("b", "a")), "twice", 2)
        self.check((("a", "b"), ("b", "c"), ("c", "d"), ("d", "b"), ("b", "a")), "twice", 4)
        self.check((("b", "a"), ("a", "b"), ("b", "c"), ("c", "d"), ("d", "b")), "twice", 2)

    def test_the_first_of_two_faults(self):
        self.check((("a", "b"), ("c", "a"), None), "saying", 2)
        self.check((("b", "a"), ("a", "b"), ("b", "a"), ("c", "d"), ("d", "b")), "link", 3)
        self.check((("d", "b"), ("c", "d"), ("a", "b")), "link", 0)
        self.check((None, ("a", "c")), "saying", 0)

    def test_things_of_every_kind_in_every_place(self):
        rng = random.Random(74)
        for ring in ((("a", "b"), ("b", "a")), (("b", "c"), ("c", "d"), ("d", "b"))):
            for thing in list(variants(ring)) + list(twice_varied(rng, ring, 200)):
                for some in (ROUND, ALONG, ()):
                    kept = repr((some, thing))
                    told = outcome(lets_ring, LIST, some, thing)
                    self.assertEqual(told, ring_outcome(some, thing), repr(thing)[:80])
                    self.assertEqual(repr((some, thing)), kept)

    def test_all_rows_of_sayings(self):
        rings = []
        for many in range(1, 6):
            for thing in itertools.product(ROUND, repeat=many):
                told = outcome(lets_ring, LIST, ROUND, thing)
                self.assertEqual(told, ring_outcome(ROUND, thing))
                if told == "True":
                    rings.append(thing)
        self.assertEqual(sorted(rings), sorted(all_rings(ROUND)))

    def test_drawn(self):
        for names, some in drawn_lists(75, 100, 9, 40):
            word, told = ranked(names, some)
            if word == "ring":
                self.assertIs(lets_ring(names, some, told), True)


if __name__ == "__main__":
    unittest.main()
