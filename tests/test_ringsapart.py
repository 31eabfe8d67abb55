import itertools
import random
import unittest

from cardsback.errors import NoPaper
from cardsback.ringsapart import lets_apart
from tests.test_ringchecker import refused, ring_outcome
from tests.things import ANY_THINGS, all_rings, drawn_lists, outcome, twice_varied, variants

LIST = ("a", "b", "c", "d")
SOME = (("a", "b"), ("a", "c"), ("b", "a"), ("b", "c"), ("c", "a"), ("c", "d"), ("d", "c"))
TWO = (("a", "b"), ("b", "a"))
THREE = (("a", "b"), ("b", "c"), ("c", "a"))
FAR = (("c", "d"), ("d", "c"))
NEAR = (("c", "a"), ("a", "c"))


def apart_outcome(some, thing):
    """What lets_apart has to tell: all faults in their order, the first one taken."""
    if type(thing) is not tuple:
        return refused("shape")
    faults = [refused("ring", k) for k, ring in enumerate(thing) if ring_outcome(some, ring) != "True"]
    if not faults:
        faults = [refused("apart", k) for k in range(len(thing))
                  if any(set(thing[k]) & set(thing[j]) for j in range(k))]
    return (faults + [repr(len(thing))])[0]


class LetsApartTest(unittest.TestCase):
    def test_how_many(self):
        for thing in ((), (TWO,), (TWO, FAR), (TWO, FAR, NEAR), (THREE, FAR), (THREE[1:] + THREE[:1],)):
            told = lets_apart(LIST, SOME, thing)
            self.assertEqual(repr(told), repr(len(thing)))

    def check(self, thing, word, *path):
        with self.assertRaises(NoPaper) as caught:
            lets_apart(LIST, SOME, thing)
        self.assertEqual(repr((caught.exception.word, caught.exception.path)), repr((word, path)))

    def test_shape(self):
        for thing in ([], [TWO], None, True, 0, "", {}, {TWO: 1}):
            self.check(thing, "shape")

    def test_ring(self):
        self.check((TWO, ()), "ring", 1)
        self.check((TWO[:1],), "ring", 0)
        self.check((TWO, list(FAR)), "ring", 1)
        self.check((TWO, FAR, (("b", "d"), ("d", "b"))), "ring", 2)
        self.check(TWO, "ring", 0)
        self.check((None,), "ring", 0)

    def test_apart(self):
        self.check((TWO, TWO), "apart", 1)
        self.check((TWO, FAR, THREE), "apart", 2)
        self.check((FAR, NEAR, TWO, TWO[::-1]), "apart", 3)

    def test_the_first_of_two_faults(self):
        self.check((TWO, TWO, None), "ring", 2)
        self.check((None, ()), "ring", 0)
        self.check((TWO, THREE, FAR, FAR), "apart", 1)

    def test_no_list(self):
        for thing in ANY_THINGS:
            self.assertEqual(outcome(lets_apart, (), (), thing), apart_outcome((), thing))

    def test_things_of_every_kind_in_every_place(self):
        rng = random.Random(81)
        for rings in ((TWO, FAR), (THREE, FAR), (NEAR, TWO, FAR)):
            for thing in list(variants(rings)) + list(twice_varied(rng, rings, 200)):
                kept = repr(thing)
                told = outcome(lets_apart, LIST, SOME, thing)
                self.assertEqual(told, apart_outcome(SOME, thing), repr(thing)[:80])
                self.assertEqual(repr(thing), kept)

    def test_each_three_rings(self):
        rings = all_rings(SOME)
        for many in range(4):
            for thing in itertools.product(rings, repeat=many):
                self.assertEqual(outcome(lets_apart, LIST, SOME, thing), apart_outcome(SOME, thing))

    def test_so_many_must_go_at_least(self):
        rng = random.Random(82)
        for names, some in drawn_lists(83, 60, 5, 10):
            rings = all_rings(some)
            for _ in range(20):
                thing = tuple(rng.sample(rings, min(len(rings), rng.randint(0, 4))))
                told = outcome(lets_apart, names, some, thing)
                self.assertEqual(told, apart_outcome(some, thing))
                if not told.startswith("NoPaper") and int(told):
                    for gone in itertools.combinations(some, int(told) - 1):
                        self.assertTrue([ring for ring in rings if not set(gone) & set(ring)])


if __name__ == "__main__":
    unittest.main()
