import random
import unittest

from cardsback.days import is_name
from cardsback.wants import all_days, is_wants, with_day, with_want, without_want
from tests.things import ANY_THINGS, NAMES, twice_varied, variants
from tests.wantschecks import draw_wants

FAR = 10 ** 59
WANTS = (("a", (0, 3, 9)), ("ash", ()), ("elm", (3,)), ("fern", (9, 10000, FAR)))


def is_wants_by_parts(thing):
    """Point 55, its parts asked one by one."""
    if type(thing) is not tuple:
        return False
    for k, part in enumerate(thing):
        if type(part) is not tuple or len(part) != 2 or not is_name(part[0]) or type(part[1]) is not tuple:
            return False
        if k and thing[k - 1][0] >= part[0]:
            return False
        before = -1
        for day in part[1]:
            if type(day) is not int or day <= before:
                return False
            before = day
    return True


class IsWantsTest(unittest.TestCase):
    def test_wants(self):
        for thing in ((), (("a", ()),), (("a", (0,)),), WANTS, WANTS[1:], (("a", (FAR, FAR + 1)),)):
            self.assertIs(is_wants(thing), True, thing)

    def test_wrong(self):
        for thing in (
                (("b", ()), ("a", ())), (("a", ()), ("a", ())), (("a", (1,)), ("a", (2,))), (("ab", ()), ("a", ())),
                (("a", (2, 1)),), (("a", (1, 1)),), (("a", (-1,)),), (("a", (-1, 0)),), (("a", (True,)),),
                (("a", (False, 1)),), (("a", [1, 2]),), [("a", (1,))], (["a", (1,)],), (("a", (1,), ()),), (("a",),),
                ((),), ("a", ()), (("A", ()),), (("", ()),), (("abcdefghi", ()),), ((1, ()),), ((None, ()),),
                (("a", (None,)),), (("a", ("1",)),), (("a", 1),), (("a", None),), {"a": ()}, None, True, 0, "a",
                (("a", (1, (2,))),), (("a", ()), None), (("a", ()), ("b", (3, 2)))):
            self.assertIs(is_wants(thing), False, thing)

    def test_any_thing(self):
        for thing in ANY_THINGS:
            self.assertIs(is_wants(thing), is_wants_by_parts(thing), repr(thing)[:60])

    def test_one_or_two_parts_changed(self):
        rng = random.Random(231)
        told = []
        for wants in (WANTS[:1], WANTS[:2], WANTS):
            for thing in list(variants(wants)) + list(twice_varied(rng, wants, 60)):
                kept = repr(thing)
                told.append(is_wants_by_parts(thing))
                self.assertIs(is_wants(thing), told[-1], repr(thing)[:80])
                self.assertEqual(repr(thing), kept)
        self.assertEqual(set(told), {True, False})

    def test_however_many(self):
        names = [chr(97 + j) + chr(97 + k) for j in range(26) for k in range(26)]
        many = tuple((name, tuple(range(40))) for name in names)
        self.assertIs(is_wants(many), True)
        self.assertIs(is_wants(many + many[-1:]), False)
        self.assertIs(is_wants((("a", tuple(range(4000))),)), True)


class TurnTest(unittest.TestCase):
    def test_all_days(self):
        self.assertEqual(all_days(()), ())
        self.assertEqual(all_days((("a", ()), ("b", ()))), ())
        self.assertEqual(all_days(WANTS), (0, 3, 9, 10000, FAR))
        self.assertEqual(all_days((("a", (5, 10)), ("b", (1, 5, 7)), ("c", (0, 99)))), (0, 1, 5, 7, 10, 99))
        self.assertIs(type(all_days(WANTS)), tuple)

    def test_with_day(self):
        self.assertEqual(with_day(WANTS, "a", 4), (("a", (0, 3, 4, 9)),) + WANTS[1:])
        self.assertEqual(with_day(WANTS, "ash", 0), (WANTS[0], ("ash", (0,))) + WANTS[2:])
        self.assertEqual(with_day(WANTS, "fern", FAR + 1), WANTS[:3] + (("fern", (9, 10000, FAR, FAR + 1)),))
        self.assertEqual(with_day(WANTS, "elm", 1), WANTS[:2] + (("elm", (1, 3)),) + WANTS[3:])

    def test_with_a_day_that_is_there(self):
        for name, days in WANTS:
            for day in days:
                self.assertEqual(repr(with_day(WANTS, name, day)), repr(WANTS))

    def test_with_want(self):
        self.assertEqual(with_want((), "ash", ()), (("ash", ()),))
        self.assertEqual(with_want(WANTS, "b", (1,)), WANTS[:2] + (("b", (1,)),) + WANTS[2:])
        self.assertEqual(with_want(WANTS, "aa", ()), WANTS[:1] + (("aa", ()),) + WANTS[1:])
        self.assertEqual(with_want(WANTS, "z", (1, 2)), WANTS + (("z", (1, 2)),))
        self.assertEqual(with_want(WANTS[1:], "a", (7,)), (("a", (7,)),) + WANTS[1:])

    def test_with_want_of_a_name_that_is_there(self):
        for k, (name, days) in enumerate(WANTS):
            for other in ((), (5,), (1, FAR)):
                self.assertEqual(with_want(WANTS, name, other), WANTS[:k] + ((name, other),) + WANTS[k + 1:])
            self.assertEqual(repr(with_want(WANTS, name, days)), repr(WANTS))

    def test_without_want(self):
        for k, (name, days) in enumerate(WANTS):
            self.assertEqual(without_want(WANTS, name), WANTS[:k] + WANTS[k + 1:])
        self.assertEqual(without_want(WANTS[:1], "a"), ())

    def test_drawn(self):
        rng = random.Random(232)
        for _ in range(200):
            wants = draw_wants(rng)
            kept = repr(wants)
            self.assertTrue(is_wants(wants))
            days = [day for name, own in wants for day in own]
            self.assertEqual(repr(all_days(wants)), repr(tuple(sorted(set(days)))))
            name, some = rng.choice(NAMES), tuple(sorted(rng.sample(range(30), rng.randrange(4))))
            right = tuple(sorted({**dict(wants), name: some}.items()))
            self.assertEqual(repr(with_want(wants, name, some)), repr(right))
            if wants:
                name, own = rng.choice(wants)
                day = rng.randrange(30)
                right = tuple(sorted({**dict(wants), name: tuple(sorted({*own, day}))}.items()))
                self.assertEqual(repr(with_day(wants, name, day)), repr(right))
                self.assertEqual(without_want(wants, name), tuple(want for want in wants if want != (name, own)))
            self.assertEqual(repr(wants), kept)


if __name__ == "__main__":
    unittest.main()
