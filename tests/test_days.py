import itertools
import unittest

from cardsback.days import is_day, is_home, is_name, next_home, weekday
from tests.things import ANY_THINGS, nested


class DayTest(unittest.TestCase):
    def test_edges(self):
        for day in (0, 1, 6, 7, 9998, 9999):
            self.assertIs(is_day(day), True, day)
        for day in (-1, -7, 10000, 10 ** 199, -(10 ** 199)):
            self.assertIs(is_day(day), False, day)

    def test_truths_are_none(self):
        self.assertIs(is_day(True), False)
        self.assertIs(is_day(False), False)

    def test_other_kinds(self):
        for thing in ANY_THINGS:
            right = repr(thing) in ("0", "1", "2", "6", "7", "60", "61", "9999")
            self.assertIs(is_day(thing), right, repr(thing)[:60])

    def test_weekday(self):
        for day in range(10000):
            told = weekday(day)
            self.assertIs(type(told), int)
            self.assertTrue(0 <= told <= 6)
            self.assertEqual((day - told) // 7 * 7, day - told)
        self.assertEqual([weekday(day) for day in (0, 6, 7, 13, 14, 9999)], [0, 6, 0, 6, 0, 3])


class HomeTest(unittest.TestCase):
    def test_none_one_all_seven(self):
        for home in ((), (0,), (6,), (0, 6), (0, 1, 2, 3, 4, 5, 6)):
            self.assertIs(is_home(home), True, home)

    def test_all_rising_ones(self):
        for many in range(4):
            for home in itertools.product(range(-1, 8), repeat=many):
                right = list(home) == sorted(set(home)) and not set(home) & {-1, 7}
                self.assertIs(is_home(home), right, home)

    def test_wrong(self):
        for thing in ((1, 0), (0, 0), (3, 3), (0, 2, 1), (0, 1, 2, 3, 4, 5, 6, 7), (7,), (-1,), (True,), (False,),
                      (0, True), (False, 1), [], [0], [0, 1], ((0,),), (0, (1,)), ("0",), ("a",), (None,), ([0],),
                      (0, None), (10 ** 199,), {}, {0: 1}, "", "0", "035"):
            self.assertIs(is_home(thing), False, thing)

    def test_other_kinds(self):
        for thing in ANY_THINGS:
            right = repr(thing) in ("()", "(0,)", "(1,)", "(0, 1, 2)")
            self.assertIs(is_home(thing), right, repr(thing)[:60])
        self.assertIs(is_home(nested(39, tuple)), False)


class NameTest(unittest.TestCase):
    def test_lengths(self):
        for name in ("a", "z", "ab", "abcdefgh", "zzzzzzzz", "ash"):
            self.assertIs(is_name(name), True, name)
        for name in ("", "abcdefghi", "a" * 9, "a" * 4000):
            self.assertIs(is_name(name), False, name)

    def test_each_sign_in_each_place(self):
        for sign in map(chr, range(32, 127)):
            right = sign in "abcdefghijklmnopqrstuvwxyz"
            for name in (sign, sign + "a", "a" + sign, "abc" + sign + "abc"):
                self.assertIs(is_name(name), right, name)

    def test_wrong(self):
        for name in ("Ash", "asH", "ash1", "1ash", "a b", " a", "a ", "`", "{", "a`", "z{", "A", "Z", "a-b", "a_b"):
            self.assertIs(is_name(name), False, name)

    def test_other_kinds(self):
        for thing in ANY_THINGS:
            right = thing in ("a", "ash", "house", "order", "rings", "one")
            self.assertIs(is_name(thing), right, repr(thing)[:60])
        for thing in (("a",), ["a"], {"a": 1}, (("a",),), ("a", "b")):
            self.assertIs(is_name(thing), False, thing)


class NextHomeTest(unittest.TestCase):
    def test_the_day_itself(self):
        self.assertEqual(next_home((0,), 0), 0)
        self.assertEqual(next_home((6,), 6), 6)
        self.assertEqual(next_home((3,), 9999), 9999)

    def test_home_of_none(self):
        for day in (0, 5, 9999):
            self.assertIsNone(next_home((), day))

    def test_a_week_later_at_most(self):
        self.assertEqual(next_home((0,), 1), 7)
        self.assertEqual(next_home((6,), 7), 13)

    def test_above_all_days(self):
        self.assertEqual(next_home((2,), 9999), 10005)
        self.assertEqual(next_home((4,), 9999), 10000)
        self.assertEqual(next_home((0,), 10001), 10003)

    def test_least_of_each_home(self):
        homes = [home for many in range(1, 8) for home in itertools.combinations(range(7), many)]
        for home in homes:
            for day in list(range(16)) + list(range(9990, 10010)):
                told = next_home(home, day)
                self.assertIs(type(told), int)
                self.assertGreaterEqual(told, day)
                self.assertIn(told % 7, home)
                self.assertFalse([late for late in range(day, told) if late % 7 in home])


if __name__ == "__main__":
    unittest.main()
