import itertools
import random
import re
import unittest

from cardsback.books import up_to
from cardsback.pages import in_order
from cardsback.sayings import is_sayings, sayings
from cardsback.standing import idle, standing
from tests.things import ANY_THINGS, draw_book, twice_varied, variants

LIST = ("a", "ab", "b", "elm")


def written_as_sayings(names, thing):
    """Whether a thing is SAYINGS of the LIST, told by its text."""
    pair = r"\('([a-z]+)', (?!'\1')'[a-z]+'\)"
    text = repr(thing)
    if text == "()":
        return True
    if not re.fullmatch(r"\(.*\)", text) or not isinstance(thing, tuple):
        return False
    if not all(re.fullmatch(pair, repr(part)) for part in thing):
        return False
    return list(thing) == sorted(set(thing)) and all(set(part) <= set(names) for part in thing)


class SayingsTest(unittest.TestCase):
    def setUp(self):
        self.houses = [("house", 1, name, ()) for name in ("ash", "elm", "fern")]

    def test_none(self):
        self.assertEqual(sayings((), 5), ())
        self.assertEqual(sayings(in_order(self.houses), 5), ())

    def test_each_once_and_rising(self):
        book = in_order(self.houses + [("ahead", 2, "fern", "elm"), ("ahead", 3, "fern", "elm"),
                                       ("ahead", 4, "ash", "fern"), ("ahead", 5, "elm", "fern")])
        self.assertEqual(sayings(book, 1), ())
        self.assertEqual(sayings(book, 2), (("fern", "elm"),))
        self.assertEqual(sayings(book, 3), (("fern", "elm"),))
        self.assertEqual(sayings(book, 4), (("ash", "fern"), ("fern", "elm")))
        self.assertEqual(sayings(book, 9), (("ash", "fern"), ("elm", "fern"), ("fern", "elm")))

    def test_of_houses_that_do_not_stand_yet(self):
        book = in_order([("ahead", 0, "ash", "elm")] + self.houses)
        self.assertEqual(sayings(book, 0), ())
        self.assertEqual(sayings(book, 5), ())
        again = in_order(book + (("ahead", 1, "ash", "elm"),))
        self.assertEqual(sayings(again, 1), (("ash", "elm"),))

    def test_of_houses_that_do_not_stand_any_more(self):
        book = in_order(self.houses + [("ahead", 2, "ash", "elm"), ("ahead", 2, "elm", "fern"),
                                       ("ahead", 2, "ash", "fern"), ("join", 3, "ash", "elm"),
                                       ("ahead", 4, "elm", "ash")])
        self.assertEqual(sayings(book, 2), (("ash", "elm"), ("ash", "fern"), ("elm", "fern")))
        self.assertEqual(sayings(book, 3), (("ash", "fern"),))
        self.assertEqual(sayings(book, 4), (("ash", "fern"),))

    def test_of_the_day_on_which_a_house_goes_up(self):
        book = in_order(self.houses + [("ahead", 3, "ash", "elm"), ("join", 3, "fern", "elm")])
        self.assertEqual(sayings(book, 3), ())

    def test_not_handed_on(self):
        book = in_order(self.houses + [("ahead", 2, "ash", "elm"), ("part", 3, "ash", "birch", ()),
                                       ("join", 4, "fern", "ash")])
        self.assertEqual(sayings(book, 3), (("ash", "elm"),))
        self.assertEqual(sayings(book, 4), ())

    def test_goings_are_none(self):
        book = in_order(self.houses + [("card", 2, "ash", "elm"), ("visit", 2, "elm", "fern")])
        self.assertEqual(sayings(book, 2), ())

    def test_drawn(self):
        rng = random.Random(41)
        for _ in range(120):
            book = draw_book(rng, many=60)
            kept = repr(book)
            day = rng.randrange(32)
            there = [name for name, home in standing(book, day)]
            spare = idle(book, day)
            pairs = {page[2:] for page in book if page[0] == "ahead" and page[1] <= day and page not in spare}
            right = tuple(sorted(pair for pair in pairs if pair[0] in there and pair[1] in there))
            told = sayings(book, day)
            self.assertEqual(repr(told), repr(right))
            self.assertEqual(sayings(up_to(book, day), day), told)
            self.assertIs(is_sayings(tuple(there), told), True)
            self.assertEqual(repr(book), kept)


class IsSayingsTest(unittest.TestCase):
    def test_sayings(self):
        for thing in ((), (("a", "ab"),), (("ab", "a"),), (("a", "ab"), ("ab", "a")), (("a", "b"), ("a", "elm"))):
            self.assertIs(is_sayings(LIST, thing), True, thing)

    def test_all_of_a_list(self):
        every = tuple((a, b) for a in LIST for b in LIST if a != b)
        self.assertIs(is_sayings(LIST, every), True)
        names = tuple(chr(97 + j) + chr(97 + k) for j in range(5) for k in range(10))
        many = tuple((a, b) for a in names for b in names if a != b)
        self.assertIs(is_sayings(names, many), True)
        self.assertIs(is_sayings(names, many + (many[-1],)), False)

    def test_wrong(self):
        for thing in ((("a", "a"),), (("ab", "a"), ("a", "ab")), (("a", "ab"), ("a", "ab")), [("a", "ab")], [],
                      (["a", "ab"],), (("a", "fern"),), (("fern", "a"),), (("a",),), (("a", "ab", "b"),), ("a", "ab"),
                      (("a", None),), ((True, "a"),), (("a", ("ab",)),), (("a", ["ab"]),), (("A", "ab"),), "a", None,
                      (("a", "b"), ("a", "ab")), {("a", "ab"): True}, (("a", "ab"), None), ("ab",), (("", "a"),)):
            self.assertIs(is_sayings(LIST, thing), False, thing)

    def test_list_of_none(self):
        for thing in ANY_THINGS:
            self.assertIs(is_sayings((), thing), repr(thing) == "()", repr(thing)[:60])

    def test_any_thing(self):
        for thing in ANY_THINGS:
            self.assertIs(is_sayings(LIST, thing), written_as_sayings(LIST, thing), repr(thing)[:60])

    def test_one_or_two_parts_changed(self):
        rng = random.Random(42)
        some = (("a", "ab"), ("ab", "elm"), ("b", "a"))
        for thing in list(variants(some)) + list(twice_varied(rng, some, 150)):
            self.assertIs(is_sayings(LIST, thing), written_as_sayings(LIST, thing), repr(thing)[:80])

    def test_each_two_pairs(self):
        pairs = [(a, b) for a in LIST for b in LIST]
        for one, other in itertools.product(pairs, repeat=2):
            right = one < other and one[0] != one[1] and other[0] != other[1]
            self.assertIs(is_sayings(LIST, (one, other)), right)


if __name__ == "__main__":
    unittest.main()
