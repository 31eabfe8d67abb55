import random
import unittest

from cardsback.errors import NoPaper
from cardsback.fewest import fewest
from cardsback.rounds import days_of, lets_round
from cardsback.serving import any_round
from tests.test_ringchecker import refused
from tests.things import ANY_THINGS, changed, outcome, refusal, twice_varied, variants
from tests.wantschecks import draw_wants, drawn_wants, is_round

WANTS = (("a", (0, 3, 9)), ("ash", (3,)), ("b", (3, 10 ** 59)), ("elm", (0, 1)))
ROUND = ((0, ("a", "elm")), (3, ("ash", "b")))


def is_small(text):
    return type(text) is str and 1 <= len(text) <= 8 and all("a" <= sign <= "z" for sign in text)


def has_shape(thing):
    if type(thing) is not tuple:
        return False
    for part in thing:
        if type(part) is not tuple or len(part) != 2 or type(part[0]) is not int or part[0] < 0:
            return False
        if type(part[1]) is not tuple or not all(is_small(name) for name in part[1]):
            return False
    return True


def round_outcome(wants, most, thing):
    """What lets_round has to tell: all faults in their order, the first one taken."""
    if not has_shape(thing):
        return refused("shape")
    choices, faults = dict(wants), []
    for k, (day, names) in enumerate(thing):
        ahead = [name for _, others in thing[:k] for name in others]
        if k and thing[k - 1][0] >= day:
            faults.append(refused("day", k))
        if len(names) == 0 or len(names) > most:
            faults.append(refused("many", k))
        for j, name in enumerate(names):
            if name not in choices or name in ahead or (j and names[j - 1] >= name):
                faults.append(refused("name", k, j))
            elif day not in choices[name]:
                faults.append(refused("out", k, j))
    gone = [name for day, names in thing for name in names]
    faults += [refused("lacks", w) for w, (name, days) in enumerate(wants) if name not in gone]
    return (faults + [repr(len(thing))])[0]


class LetsRoundTest(unittest.TestCase):
    def check(self, thing, word, *path, most=2):
        error = refusal(lets_round, WANTS, most, thing)
        self.assertIs(type(error), NoPaper)
        self.assertEqual(repr((error.word, error.path)), repr((word, path)))

    def test_how_many_goings(self):
        for thing in (ROUND, ((0, ("elm",)), (3, ("a", "ash")), (10 ** 59, ("b",))),
                      ((1, ("elm",)), (3, ("ash", "b")), (9, ("a",))), ((0, ("a",)), (1, ("elm",)), (3, ("ash", "b")))):
            told = lets_round(WANTS, 2, thing)
            self.assertEqual((type(told), told), (int, len(thing)))
        self.assertEqual(lets_round(WANTS, 1, ((0, ("elm",)), (3, ("ash",)), (9, ("a",)), (10 ** 59, ("b",)))), 4)
        self.assertEqual(lets_round(WANTS, 4, ((0, ("elm",)), (3, ("a", "ash", "b")))), 2)

    def test_no_wants(self):
        for most in (1, 2, 3, 4):
            told = lets_round((), most, ())
            self.assertEqual((type(told), told), (int, 0))
        self.assertEqual(outcome(lets_round, (), 1, ((0, ()),)), refused("many", 0))
        self.assertEqual(outcome(lets_round, (), 1, ((0, ("a",)),)), refused("name", 0, 0))

    def test_shape(self):
        for thing in (None, True, 0, "a", [], {}, list(ROUND), (None,), ((),), ((0,),), ((0, ("a",), 1),), (0, ("a",)),
                      ((-1, ("a",)),), ((False, ("a", "elm")), ROUND[1]), ((True, ("elm",)),), ((0, ["a"]),),
                      ([0, ("a",)],), ((0, "a"),), ((0, ("A",)),), ((0, ("",)),), ((0, ("abcdefghi",)),),
                      ((0, (None,)),), (("0", ("a",)),), ((None, ("a",)),), ((0, (("a",),)),), ROUND + ((-1, ()),),
                      ROUND + (None,)):
            self.check(thing, "shape")

    def test_day(self):
        self.check(ROUND[::-1], "day", 1)
        self.check((ROUND[0], ROUND[0]), "day", 1)
        self.check(((0, ("a",)), (0, ("elm",)), ROUND[1]), "day", 1)
        self.check((ROUND[0], ROUND[1], (2, ("zz",))), "day", 2)

    def test_many(self):
        self.check(((0, ()),), "many", 0)
        self.check((ROUND[0], (1, ()), ROUND[1]), "many", 1)
        self.check(((0, ("elm",)), (3, ("a", "ash", "b"))), "many", 1)
        self.check(ROUND, "many", 0, most=1)
        self.check(((0, ("elm",)), (3, ("a", "ash", "b", "zz", "zzz"))), "many", 1, most=4)

    def test_name(self):
        self.check(((0, ("a", "el")),), "name", 0, 1)
        self.check(((0, ("c", "elm")),), "name", 0, 0)
        self.check(((0, ("elm", "a")), ROUND[1]), "name", 0, 1)
        self.check(((0, ("a", "a")), ROUND[1]), "name", 0, 1)
        self.check((ROUND[0], (3, ("a", "ash"))), "name", 1, 0)
        self.check(ROUND + ((9, ("a",)),), "name", 2, 0)

    def test_out(self):
        self.check(((1, ("a", "elm")), ROUND[1]), "out", 0, 0)
        self.check(((0, ("a", "b")),), "out", 0, 1)
        self.check((ROUND[0], (4, ("ash", "b"))), "out", 1, 0)
        self.check((ROUND[0], (3, ("ash",)), (10 ** 59 + 1, ("b",))), "out", 2, 0)

    def test_lacks(self):
        self.check((), "lacks", 0)
        self.check(ROUND[:1], "lacks", 1)
        self.check(ROUND[1:], "lacks", 0)
        self.check(((0, ("a", "elm")), (3, ("ash",))), "lacks", 2)
        self.check(((0, ("a",)), (3, ("ash", "b"))), "lacks", 3)

    def test_which_comes_first(self):
        # Going by going: what is amiss in an earlier one goes ahead, whatever its word.
        self.check(((0, ("a", "b")), (0, ())), "out", 0, 1)
        self.check(((0, ("zz",)), (0, ())), "name", 0, 0)
        self.check(((0, ()), (0, ())), "many", 0)
        self.check((ROUND[0], (0, ())), "day", 1)
        self.check((ROUND[0], (0, ("zz", "zy"))), "day", 1)
        self.check((ROUND[0], (3, ("zz", "zy", "zx"))), "many", 1)
        # Name by name: one that is out goes ahead of a later one that is none.
        self.check(((1, ("a", "zz")),), "out", 0, 0)
        self.check(((1, ("c", "zz")),), "name", 0, 0)
        self.check(((0, ("ash", "a")),), "out", 0, 0)
        # Behind all: a want that lacks.
        self.check(((1, ("elm",)), (4, ("ash",))), "out", 1, 0)
        self.check(((0, ("zz",)), (True, ())), "shape")

    def test_any_thing(self):
        for wants in ((), WANTS):
            for thing in ANY_THINGS:
                for most in (1, 4):
                    self.assertEqual(outcome(lets_round, wants, most, thing), round_outcome(wants, most, thing))

    def test_things_of_every_kind_in_every_place(self):
        rng = random.Random(381)
        for thing in list(variants(ROUND)) + list(twice_varied(rng, ROUND, 300)):
            kept = repr(thing)
            for most in (1, 2):
                told = outcome(lets_round, WANTS, most, thing)
                self.assertEqual(told, round_outcome(WANTS, most, thing), repr(thing)[:120])
            self.assertEqual(repr(thing), kept)


class DrawnTest(unittest.TestCase):
    def test_each_told_round_is_let_by(self):
        many = 0
        for wants, most in drawn_wants(382, 300):
            word, told = any_round(wants, most)
            if word == "round":
                self.assertEqual(lets_round(wants, most, told), len(told))
                many += 1
                if refusal(fewest, wants, most) is None:
                    found = fewest(wants, most)[0]
                    self.assertEqual(lets_round(wants, most, found), len(found))
        self.assertGreater(many, 100)

    def test_rounds_of_others_and_changed(self):
        rng = random.Random(383)
        met = {}
        for wants, most in drawn_wants(384, 400, share=0.6):
            word, told = any_round(wants, 4)
            if word == "crowd":
                continue
            kept = repr(wants)
            other = any_round(draw_wants(rng, share=0.7), 4)[1]
            things = [changed(rng, told) for _ in range(6)] + [swapped(rng, told) for _ in range(4)]
            for thing in [told, other] + things:
                right = round_outcome(wants, most, thing)
                self.assertEqual(outcome(lets_round, wants, most, thing), right)
                self.assertEqual(right.isdigit(), has_shape(thing) and is_round(wants, most, thing))
                key = right.split("'")[3] if "'" in right else "round"
                met[key] = met.get(key, 0) + 1
            self.assertEqual(repr(wants), kept)
        self.assertEqual(sorted(met), ["day", "lacks", "many", "name", "out", "round", "shape"])
        self.assertGreater(min(met.values()), 15, met)


def swapped(rng, told):
    """A ROUND with a name put from one going into another one, or a day turned, drawn."""
    goings = [[day, list(names)] for day, names in told]
    if goings:
        one, other = rng.choice(goings), rng.choice(goings)
        how = rng.randrange(3)
        if how == 0:
            one[0] = rng.choice((other[0], one[0] + 1, rng.randrange(24)))
        else:
            other[1] = sorted(other[1] + [one[1][0]])
            if how == 1:
                one[1].pop(0)
    return tuple((day, tuple(names)) for day, names in goings)


class DaysOfTest(unittest.TestCase):
    def test_days(self):
        self.assertEqual(days_of(()), ())
        self.assertEqual(days_of(ROUND), (0, 3))
        self.assertEqual(days_of(((5, ("a",)), (10 ** 59, ("b", "c")))), (5, 10 ** 59))
        self.assertIs(type(days_of(ROUND)), tuple)

    def test_drawn(self):
        for wants, most in drawn_wants(385, 100):
            word, told = any_round(wants, most)
            if word == "round":
                kept = repr(told)
                self.assertEqual(repr(days_of(told)), repr(tuple(sorted({day for day, names in told}))))
                self.assertEqual(repr(told), kept)


if __name__ == "__main__":
    unittest.main()
