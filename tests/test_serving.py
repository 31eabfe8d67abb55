import random
import unittest

from cardsback.serving import any_round, served
from cardsback.wants import all_days
from tests.things import NAMES
from tests.wantschecks import can_serve, draw_wants, drawn_wants, is_crowd, is_round

FAR = 10 ** 59
THREE = (("a", (1, 2)), ("b", (2,)), ("c", (2, 5)))


class ServedTest(unittest.TestCase):
    def test_no_wants(self):
        for days in ((), (1, 2)):
            for most in (1, 4):
                self.assertEqual(served((), most, days), ())

    def test_days_that_just_do(self):
        self.assertEqual(served(THREE, 1, (1, 2, 5)), ((1, ("a",)), (2, ("b",)), (5, ("c",))))
        self.assertEqual(served(THREE, 3, (2,)), ((2, ("a", "b", "c")),))
        self.assertEqual(served(THREE, 2, (1, 2)), ((1, ("a",)), (2, ("b", "c"))))

    def test_one_fewer(self):
        for days in ((1, 2), (1, 5), (2, 5), (2,), ()):
            self.assertIsNone(served(THREE, 1, days))
        self.assertIsNone(served(THREE, 2, (2,)))
        self.assertIsNone(served(THREE, 4, (1, 5)))

    def test_days_of_none(self):
        self.assertIsNone(served(THREE, 4, ()))
        self.assertIsNone(served((("a", ()),), 4, (0, 1, 2)))
        self.assertIsNone(served(THREE + (("d", ()),), 4, (1, 2, 5)))

    def test_days_that_nobody_wants(self):
        self.assertEqual(served((("a", (4,)),), 1, (0, 3, 4, 99, FAR)), ((4, ("a",)),))
        self.assertIsNone(served((("a", (4,)),), 1, tuple(range(5, 33))))

    def test_far_days(self):
        self.assertEqual(served((("a", (FAR,)), ("b", (FAR, FAR + 1))), 1, (FAR, FAR + 1)),
                         ((FAR, ("a",)), (FAR + 1, ("b",))))

    def test_names_that_must_move_on(self):
        # Each name but the last one has to leave the first day that it has.
        wants = (("a", (1, 2)), ("b", (1, 3)), ("c", (2, 4)), ("d", (1,)), ("e", (3,)))
        self.assertIsNone(served(wants, 1, (1, 2, 3, 4)))
        wants = (("a", (1, 2)), ("b", (2, 3)), ("c", (3, 4)), ("d", (1,)))
        self.assertEqual(served(wants, 1, (1, 2, 3, 4)), ((1, ("d",)), (2, ("a",)), (3, ("b",)), (4, ("c",))))
        wants = (("a", (1, 2)), ("b", (1, 2)), ("c", (1,)), ("d", (1,)))
        self.assertEqual(served(wants, 2, (1, 2)), ((1, ("c", "d")), (2, ("a", "b"))))

    def test_drawn_against_all_rows(self):
        rng = random.Random(241)
        told = {True: 0, False: 0}
        for wants, most in drawn_wants(242, 400):
            kept = repr(wants)
            days = tuple(sorted(rng.sample(range(24), rng.randint(0, 20))))
            if rng.random() < 0.6:
                days = tuple(day for day in all_days(wants) if rng.random() < 0.8)
            found = served(wants, most, days)
            right = can_serve(wants, most, days)
            told[right] += 1
            self.assertEqual(found is not None, right)
            if right:
                self.assertTrue(is_round(wants, most, found), found)
                self.assertLessEqual({day for day, names in found}, set(days))
            self.assertEqual(repr(wants), kept)
        self.assertGreater(min(told.values()), 80, told)


class AnyRoundTest(unittest.TestCase):
    def test_no_wants(self):
        for most in (1, 2, 3, 4):
            self.assertEqual(any_round((), most), ("round", ()))

    def test_a_name_of_no_days(self):
        self.assertEqual(any_round((("a", (1,)), ("b", ())), 4), ("crowd", ("b",)))

    def test_crowds(self):
        self.assertEqual(any_round((("a", (1,)), ("b", (1,))), 1), ("crowd", ("a", "b")))
        self.assertEqual(any_round((("a", (1,)), ("b", (1,))), 2), ("round", ((1, ("a", "b")),)))
        five = tuple((name, (3,)) for name in "abcde")
        self.assertEqual(any_round(five, 4), ("crowd", tuple("abcde")))
        wants = (("a", (1, 2)), ("b", (1, 2)), ("c", (7, 8)), ("d", (1, 2)))
        self.assertEqual(any_round(wants, 1), ("crowd", ("a", "b", "d")))

    def test_just_one_of_both_by_all_rows(self):
        told = {}
        for wants, most in drawn_wants(243, 500):
            kept = repr(wants)
            word, found = any_round(wants, most)
            self.assertIs(type(any_round(wants, most)), tuple)
            self.assertEqual(word == "round", can_serve(wants, most, all_days(wants)))
            right = is_round if word == "round" else is_crowd
            self.assertTrue(right(wants, most, found), (wants, most, found))
            told[word, most] = told.get((word, most), 0) + 1
            self.assertEqual(repr(wants), kept)
        self.assertEqual(len(told), 8)
        self.assertGreater(min(told.values()), 10, told)

    def test_eight_wants_of_many_days(self):
        rng = random.Random(244)
        words = set()
        for _ in range(150):
            share = rng.choice((0.02, 0.05, 0.1, 0.5))
            days = sorted(rng.sample(range(1000), 28))
            wants = tuple((name, tuple(day for day in days if rng.random() < share)) for name in NAMES[:8])
            most = rng.randint(1, 4)
            word, found = any_round(wants, most)
            words.add(word)
            self.assertTrue((is_round if word == "round" else is_crowd)(wants, most, found))
        self.assertEqual(words, {"round", "crowd"})

    def test_names_and_days_put_for_others(self):
        rng = random.Random(245)
        for _ in range(60):
            wants, most = draw_wants(rng), rng.randint(1, 4)
            other = tuple(("x" + name, tuple(3 * day + FAR for day in days)) for name, days in wants)
            self.assertEqual(any_round(wants, most)[0], any_round(other, most)[0])


if __name__ == "__main__":
    unittest.main()
