import itertools
import random
import unittest

from cardsback.crowds import lets_crowd
from cardsback.errors import NoPaper
from cardsback.fewest import fewest
from cardsback.serving import any_round
from tests.test_ringchecker import refused
from tests.test_rounds import is_small
from tests.things import ANY_THINGS, NAMES, changed, outcome, refusal, twice_varied, variants
from tests.wantschecks import can_serve, drawn_wants, is_crowd, rises

WANTS = (("a", (1,)), ("ash", (1,)), ("b", (1, 2)), ("elm", ()), ("fern", (1, 2)), ("oak", (1, 2)))


def crowd_outcome(wants, most, thing):
    """What lets_crowd has to tell, by the words of point 57."""
    if type(thing) is not tuple or not all(is_small(part) for part in thing):
        return refused("shape")
    for j, name in enumerate(thing):
        if name not in dict(wants) or not rises(thing[:j + 1]):
            return refused("name", j)
    return "True" if is_crowd(wants, most, thing) else refused("few")


class LetsCrowdTest(unittest.TestCase):
    def check(self, thing, word, *path, most=1):
        error = refusal(lets_crowd, WANTS, most, thing)
        self.assertIs(type(error), NoPaper)
        self.assertEqual(repr((error.word, error.path)), repr((word, path)))

    def test_let_by(self):
        for most, thing in ((1, ("a", "ash")), (1, ("a", "ash", "b")), (1, ("elm",)), (4, ("elm",)),
                            (1, ("b", "fern", "oak")), (2, ("a", "ash", "b", "fern", "oak")), (1, ("a", "elm"))):
            self.assertIs(lets_crowd(WANTS, most, thing), True, thing)

    def test_the_very_number_of_names_at_which_the_days_do(self):
        wants = tuple((name, (3, 7)) for name in NAMES)
        for most in (1, 2, 3, 4):
            for many in range(len(NAMES) + 1):
                told = outcome(lets_crowd, wants, most, NAMES[:many])
                self.assertEqual(told, "True" if many > 2 * most else refused("few"))

    def test_shape(self):
        for thing in (None, True, 0, "a", [], {}, ["a", "ash"], ("a", None), ("a", 1), ("A",), ("",), ("abcdefghi",),
                      ("a", ["ash"]), (("a",),), ("zz", None), {"a": 1}):
            self.check(thing, "shape")

    def test_name(self):
        self.check(("zz",), "name", 0)
        self.check(("a", "b", "zz"), "name", 2)
        self.check(("ash", "a"), "name", 1)
        self.check(("a", "a"), "name", 1)
        self.check(("a", "b", "ash", "zz"), "name", 2)
        self.check(("a", "as"), "name", 1)

    def test_few(self):
        self.check((), "few")
        self.check(("a",), "few")
        self.check(("b", "fern"), "few")
        self.check(("a", "ash"), "few", most=2)
        self.check(("b", "elm"), "few")

    def test_no_wants(self):
        self.assertEqual(outcome(lets_crowd, (), 1, ()), refused("few"))
        self.assertEqual(outcome(lets_crowd, (), 1, ("a",)), refused("name", 0))

    def test_any_thing(self):
        for thing in ANY_THINGS:
            for wants in ((), WANTS):
                self.assertEqual(outcome(lets_crowd, wants, 1, thing), crowd_outcome(wants, 1, thing))

    def test_things_of_every_kind_in_every_place(self):
        rng = random.Random(391)
        for crowd in (("a", "ash"), ("a", "ash", "b"), ("elm",)):
            for thing in list(variants(crowd)) + list(twice_varied(rng, crowd, 100)):
                kept = repr(thing)
                self.assertEqual(outcome(lets_crowd, WANTS, 1, thing), crowd_outcome(WANTS, 1, thing))
                self.assertEqual(repr(thing), kept)

    def test_all_names_gone_through(self):
        for many in range(len(WANTS) + 1):
            for names in itertools.permutations([name for name, days in WANTS], many):
                for most in (1, 2):
                    self.assertEqual(outcome(lets_crowd, WANTS, most, names), crowd_outcome(WANTS, most, names))


class DrawnTest(unittest.TestCase):
    def test_each_told_crowd_is_let_by_and_just_one_of_both_is(self):
        told = {"round": 0, "crowd": 0}
        for wants, most in drawn_wants(392, 300):
            word, thing = any_round(wants, most)
            told[word] += 1
            if word == "crowd":
                self.assertIs(lets_crowd(wants, most, thing), True)
                self.assertIs(lets_crowd(wants, most, refusal(fewest, wants, most).names), True)
            names = [name for name, days in wants]
            crowds = [some for many in range(len(names) + 1) for some in itertools.combinations(names, many)
                      if refusal(lets_crowd, wants, most, some) is None]
            self.assertEqual(bool(crowds), word == "crowd")
            self.assertEqual(can_serve(wants, most, range(24)), word == "round")
        self.assertGreater(min(told.values()), 50, told)

    def test_changed(self):
        rng = random.Random(393)
        met = {}
        for wants, most in drawn_wants(394, 300):
            kept = repr(wants)
            names = tuple(name for name, days in wants)
            for thing in [names] + [changed(rng, rng.choice((names, names[1:]))) for _ in range(6)]:
                right = crowd_outcome(wants, most, thing)
                self.assertEqual(outcome(lets_crowd, wants, most, thing), right)
                key = right.split("'")[3] if "'" in right else "crowd"
                met[key] = met.get(key, 0) + 1
            self.assertEqual(repr(wants), kept)
        self.assertEqual(sorted(met), ["crowd", "few", "name", "shape"])
        self.assertGreater(min(met.values()), 20, met)


if __name__ == "__main__":
    unittest.main()
