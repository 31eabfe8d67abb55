import itertools
import random
import re
import unittest

from cardsback.errors import NoPaper
from cardsback.lettingchecker import lets_letting
from tests.test_ringchecker import refused, ring_outcome
from tests.test_ringsapart import FAR, LIST, NEAR, SOME, THREE, TWO
from tests.things import ANY_THINGS, NAMES, all_rings, changed, draw_sayings, outcome, twice_varied, variants


def node_words(some, gone, more, node):
    """The words by which a node is amiss, in their order, its parts not looked at."""
    if type(node) is not tuple or len(node) not in (2, 3) or repr(node[0]) != ("'rings'", "'one'")[len(node) - 2]:
        return ["shape"]
    if any(type(part) is not tuple for part in node[1:]):
        return ["shape"]
    left = [saying for saying in some if saying not in gone]
    rings = node[1] if len(node) == 2 else (node[1],)
    words = []
    if len(node) == 3 and len(node[2]) != (len(node[1]) if more else 0):
        words.append("shape")
    if any(ring_outcome(left, ring) != "True" for ring in rings):
        return words + ["ring"]
    if any(set(one) & set(other) for one, other in itertools.combinations(rings, 2)):
        words.append("apart")
    if len(rings) <= more and len(node) == 2:
        words.append("few")
    return words


def letting_outcome(some, number, thing):
    """What lets_letting has to tell, by a row of nodes that are still to be looked at."""
    waiting = [((), (), thing)]
    while waiting:
        path, gone, node = waiting.pop(0)
        words = node_words(some, gone, number - len(path), node)
        if words:
            return refused(words[0], *path)
        if len(node) == 3:
            parts = [(path + (k,), gone + (node[1][k],), part) for k, part in enumerate(node[2])]
            waiting = parts + waiting
    return "True"


def draw_cases(rng, some, more):
    """CASES for a number, as far as there are such; else a node that is none."""
    rings = all_rings(some)
    if not rings:
        return ("rings", ())
    rng.shuffle(rings)
    apart = []
    for ring in rings:
        if not any(set(ring) & set(met) for met in apart):
            apart.append(ring)
    if len(apart) > more and rng.random() < 0.6:
        return ("rings", tuple(apart[:rng.randint(more + 1, len(apart))]))
    ring = rings[0]
    if more == 0:
        return ("one", ring, ())
    parts = [draw_cases(rng, tuple(other for other in some if other != saying), more - 1) for saying in ring]
    return ("one", ring, tuple(parts))


ONE = ("one", TWO, (("rings", (FAR,)), ("one", NEAR, ())))


class LetsLettingTest(unittest.TestCase):
    def check(self, number, thing, word, *path):
        with self.assertRaises(NoPaper) as caught:
            lets_letting(LIST, SOME, number, thing)
        self.assertEqual(repr((caught.exception.word, caught.exception.path)), repr((word, path)))

    def test_rings(self):
        for number in (0, 1, 2):
            self.assertIs(lets_letting(LIST, SOME, number, ("rings", (TWO, FAR, NEAR))), True)
        self.check(3, ("rings", (TWO, FAR, NEAR)), "few")

    def test_one(self):
        self.assertIs(lets_letting(LIST, SOME, 0, ("one", THREE, ())), True)
        self.assertIs(lets_letting(LIST, SOME, 1, ONE), True)

    def test_nodes_within_nodes(self):
        names = ("a", "b", "c")
        some = tuple((a, b) for a in names for b in names if a != b)
        for number in range(4):
            node = self.cases(some, number)
            if number < 3:
                self.assertIs(lets_letting(names, some, number, node), True)
            self.assertEqual(outcome(lets_letting, names, some, number, node), letting_outcome(some, number, node))

    def cases(self, some, more):
        rings = all_rings(some)
        if not rings:
            return ("rings", ())
        ring = rings[-1]
        parts = [self.cases(tuple(other for other in some if other != saying), more - 1) for saying in ring]
        return ("one", ring, tuple(parts) if more else ())

    def test_shape(self):
        for thing in ((), None, True, "rings", [], ["rings", (TWO,)], ("rings",), ("rings", (TWO,), ()), ("one", TWO),
                      ("one", TWO, (), ()), ("ring", (TWO,)), (["rings"], (TWO,)), ("rings", [TWO]), ("rings", None),
                      ("one", list(TWO), ()), ("one", TWO, []), ("one", TWO, None), (("rings", (TWO,)),), {}, ("one",),
                      ("rings", "x"), ("ones", TWO, ()), (None, TWO, ())):
            self.check(0, thing, "shape")

    def test_shape_by_parts(self):
        leaf = ("rings", (FAR,))
        self.check(0, ("one", TWO, (leaf, leaf)), "shape")
        self.check(1, ("one", TWO, ()), "shape")
        self.check(1, ("one", TWO, (leaf,)), "shape")
        self.check(1, ("one", TWO, (leaf, leaf, leaf)), "shape")
        self.check(1, ("one", (None, 1), (leaf,)), "shape")
        self.check(1, ("one", (None, 1), (leaf, leaf)), "ring")
        self.check(1, ("one", (), ()), "ring")
        self.check(0, ("one", (), ()), "ring")

    def test_ring(self):
        self.check(0, ("rings", (TWO, ())), "ring")
        self.check(0, ("rings", (TWO, None)), "ring")
        self.check(0, ("one", TWO[:1], ()), "ring")
        self.check(0, ("one", (("b", "d"), ("d", "b")), ()), "ring")

    def test_apart(self):
        self.check(0, ("rings", (TWO, THREE)), "apart")
        self.check(0, ("rings", (FAR, TWO, FAR)), "apart")

    def test_few(self):
        self.check(0, ("rings", ()), "few")
        self.check(1, ("rings", (TWO,)), "few")
        self.check(2, ("rings", (TWO, FAR)), "few")

    def test_the_first_of_two_faults(self):
        self.check(3, ("rings", (TWO, TWO, None)), "ring")
        self.check(3, ("rings", (TWO, TWO)), "apart")
        self.check(1, ("one", (None,), ()), "shape")
        self.check(1, ("one", TWO, (("rings", ()), None)), "few", 0)
        self.check(1, ("one", THREE[:2], (None, None)), "ring")

    def test_sayings_that_are_gone(self):
        leaf = ("rings", (FAR,))
        self.check(1, ("one", TWO, (("rings", (TWO,)), leaf)), "ring", 0)
        self.check(1, ("one", TWO, (leaf, ("rings", (TWO,)))), "ring", 1)
        self.check(1, ("one", TWO, (leaf, ("one", TWO[::-1], ()))), "ring", 1)
        self.check(1, ("one", TWO, (("rings", (THREE,)), leaf)), "ring", 0)
        self.assertIs(lets_letting(LIST, SOME, 1, ("one", TWO, (leaf, ("rings", (THREE,))))), True)

    def test_path(self):
        deep = ("one", TWO, (("rings", (FAR, NEAR)), ("one", FAR, (("one", NEAR, ()), None))))
        self.check(2, deep, "shape", 1, 1)
        self.check(2, ("one", TWO, (("rings", (FAR, NEAR)), ("rings", (FAR,)))), "few", 1)
        self.check(2, ("one", TWO, (deep, None)), "ring", 0)
        self.check(2, ("one", TWO, (("rings", (FAR, NEAR)), ("rings", (NEAR, FAR, FAR)))), "apart", 1)
        late = ("one", FAR, (("one", NEAR, ()), ("one", NEAR, (None,))))
        self.check(2, ("one", TWO, (late, None)), "shape", 0, 1)

    def test_any_thing(self):
        for number in range(4):
            for thing in ANY_THINGS:
                for some in ((), SOME):
                    told = outcome(lets_letting, LIST, some, number, thing)
                    self.assertEqual(told, letting_outcome(some, number, thing), repr(thing)[:80])

    def test_things_of_every_kind_in_every_place(self):
        rng = random.Random(91)
        for number, cases in ((0, ("rings", (TWO, FAR))), (0, ("one", THREE, ())), (1, ONE)):
            for thing in list(variants(cases)) + list(twice_varied(rng, cases, 200)):
                kept = repr(thing)
                told = outcome(lets_letting, LIST, SOME, number, thing)
                self.assertEqual(told, letting_outcome(SOME, number, thing), repr(thing)[:120])
                self.assertEqual(repr(thing), kept)

    def test_drawn(self):
        rng = random.Random(92)
        let_by = dict.fromkeys(range(4), 0)
        words = []
        for _ in range(250):
            names = NAMES[:rng.randint(2, 5)]
            some = draw_sayings(rng, names, rng.randint(0, 16))
            number = rng.randint(0, 3)
            cases = draw_cases(rng, some, number)
            for asked in (number, number - 1, number + 1):
                if not 0 <= asked <= 3:
                    continue
                told = outcome(lets_letting, names, some, asked, cases)
                self.assertEqual(told, letting_outcome(some, asked, cases))
                if told == "True":
                    let_by[asked] += 1
                    self.check_so(some, asked)
            for _ in range(20):
                thing = changed(rng, cases)
                told = outcome(lets_letting, names, some, number, thing)
                self.assertEqual(told, letting_outcome(some, number, thing), repr(thing)[:200])
                words.append(told)
        self.assertGreater(min(let_by.values()), 10)
        self.assertIn(refused("apart"), words)
        for word in ("shape", "ring", "few"):
            self.assertIn(refused(word), words)
            self.assertTrue([told for told in words if re.search(rf"'{word}'.*\d, \d", told)], word)

    def check_so(self, some, number):
        rings = [set(ring) for ring in all_rings(some)]
        for many in range(number + 1):
            for gone in itertools.combinations(some, many):
                self.assertTrue(any(not ring & set(gone) for ring in rings))


if __name__ == "__main__":
    unittest.main()
