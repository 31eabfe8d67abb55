import itertools
import random
import re
import unittest

from cardsback.pages import in_order, is_page, names_of, page_day, page_kind, stands_ahead
from tests.things import ANY_THINGS, draw_book, draw_page, twice_varied, variants

KINDS = ("house", "part", "join", "home", "mourn", "ahead", "card", "visit")

FORMS = (
    ("house", 0, "a", ()),
    ("house", 9999, "abcdefgh", (0, 6)),
    ("part", 12, "ash", "fern", (0, 3, 5)),
    ("join", 7, "ash", "fern"),
    ("home", 8, "ash", (1,)),
    ("mourn", 9, "ash", 14),
    ("mourn", 9, "ash", 1),
    ("mourn", 9, "ash", 60),
    ("ahead", 9, "ash", "elm"),
    ("card", 10, "ash", "elm"),
    ("visit", 11, "elm", "ash"),
)

DAY = r"(?:0|[1-9][0-9]{0,3})"
NAME = r"'[a-z]{1,8}'"
HOME = r"(\(\)|\([0-6],\)|\([0-6](?:, [0-6]){1,6}\))"
MANY = r"(?:[1-9]|[1-5][0-9]|60)"
WRITTEN = (
    rf"\('(?:house|home)', {DAY}, {NAME}, {HOME}\)",
    rf"\('part', {DAY}, ({NAME}), (?!\1){NAME}, {HOME}\)",
    rf"\('mourn', {DAY}, {NAME}, {MANY}\)",
    rf"\('(?:join|ahead|card|visit)', {DAY}, ({NAME}), (?!\1){NAME}\)",
)


def written_as_page(thing):
    """Whether a thing is a PAGE, told by its text: there kinds show."""
    text = repr(thing)
    if not any(re.fullmatch(form, text) for form in WRITTEN):
        return False
    homes = [part for part in thing if isinstance(part, tuple)]
    return all(list(home) == sorted(set(home)) for home in homes)


class IsPageTest(unittest.TestCase):
    def test_each_form(self):
        self.assertEqual({page[0] for page in FORMS}, set(KINDS))
        for page in FORMS:
            self.assertIs(is_page(page), True, page)

    def test_any_thing(self):
        for thing in ANY_THINGS:
            self.assertIs(is_page(thing), False, repr(thing)[:60])

    def test_each_form_with_one_part_changed(self):
        for page in FORMS:
            for thing in variants(page):
                self.assertIs(is_page(thing), written_as_page(thing), repr(thing)[:80])

    def test_each_form_with_two_parts_changed(self):
        rng = random.Random(11)
        for page in FORMS:
            for thing in twice_varied(rng, page, 60):
                self.assertIs(is_page(thing), written_as_page(thing), repr(thing)[:80])

    def test_each_kind_with_another_ones_parts(self):
        for page, kind in itertools.product(FORMS, KINDS):
            thing = (kind,) + page[1:]
            self.assertIs(is_page(thing), written_as_page(thing), thing)

    def test_a_house_twice(self):
        for kind in ("join", "ahead", "card", "visit"):
            self.assertIs(is_page((kind, 1, "ash", "ash")), False, kind)
        self.assertIs(is_page(("part", 1, "ash", "ash", ())), False)

    def test_truths(self):
        for thing in (("house", True, "a", ()), ("house", 1, "a", (True,)), ("mourn", 1, "a", True),
                      ("part", False, "a", "b", ()), ("card", True, "a", "b"), (True, 1, "a", "b")):
            self.assertIs(is_page(thing), False, thing)

    def test_bounds(self):
        for many in (0, -1, 61, 10 ** 199):
            self.assertIs(is_page(("mourn", 1, "a", many)), False, many)
        for day in (-1, 10000):
            self.assertIs(is_page(("visit", day, "a", "b")), False, day)

    def test_wrong_kinds(self):
        for kind in ("House", "houses", "", "call", "visit ", None, ("visit",), ["visit"], {}):
            self.assertIs(is_page((kind, 1, "a", "b")), False, kind)

    def test_too_short_and_too_long(self):
        for page in FORMS:
            for many in range(len(page)):
                self.assertIs(is_page(page[:many]), False, page[:many])
            self.assertIs(is_page(page + ((),)), False)
            self.assertIs(is_page(page + ("a",)), False)

    def test_lists(self):
        for page in FORMS:
            self.assertIs(is_page(list(page)), False)
        self.assertIs(is_page(("house", 1, "a", [])), False)
        self.assertIs(is_page(("house", 1, ["a"], ())), False)


class PartsTest(unittest.TestCase):
    def test_day_and_kind(self):
        for page in FORMS:
            self.assertEqual(page_day(page), page[1])
            self.assertEqual(page_kind(page), page[0])

    def test_names(self):
        self.assertEqual(names_of(("house", 1, "ash", (1,))), ("ash",))
        self.assertEqual(names_of(("home", 1, "ash", ())), ("ash",))
        self.assertEqual(names_of(("mourn", 1, "ash", 3)), ("ash",))
        self.assertEqual(names_of(("part", 1, "fern", "ash", ())), ("fern", "ash"))
        for kind in ("join", "ahead", "card", "visit"):
            self.assertEqual(names_of((kind, 1, "fern", "ash")), ("fern", "ash"))
            self.assertEqual(names_of((kind, 1, "ash", "fern")), ("ash", "fern"))
        for page in FORMS:
            self.assertIs(type(names_of(page)), tuple)


class StandTest(unittest.TestCase):
    def test_by_days_first(self):
        self.assertIs(stands_ahead(("visit", 1, "b", "a"), ("house", 2, "a", ())), True)
        self.assertIs(stands_ahead(("house", 2, "a", ()), ("visit", 1, "b", "a")), False)
        self.assertIs(stands_ahead(("card", 9, "b", "a"), ("card", 10, "a", "b")), True)

    def test_then_by_the_order_of_kinds(self):
        by_kind = {page[0]: (page[0], 5) + page[2:] for page in FORMS}
        for j, k in itertools.product(range(8), repeat=2):
            told = stands_ahead(by_kind[KINDS[j]], by_kind[KINDS[k]])
            self.assertIs(told, j < k, (KINDS[j], KINDS[k]))

    def test_then_as_python_sorts(self):
        rows = (
            (("house", 5, "a", (6,)), ("house", 5, "b", ())),
            (("house", 5, "a", ()), ("house", 5, "a", (0,))),
            (("house", 5, "a", (0, 6)), ("house", 5, "a", (1,))),
            (("part", 5, "a", "c", (1,)), ("part", 5, "b", "a", (0,))),
            (("part", 5, "a", "b", (0,)), ("part", 5, "a", "b", (0, 1))),
            (("mourn", 5, "a", 9), ("mourn", 5, "a", 10)),
            (("mourn", 5, "a", 60), ("mourn", 5, "ab", 1)),
            (("visit", 5, "a", "z"), ("visit", 5, "ab", "a")),
            (("card", 5, "a", "ab"), ("card", 5, "a", "b")),
        )
        for one, other in rows:
            self.assertIs(stands_ahead(one, other), True, (one, other))
            self.assertIs(stands_ahead(other, one), False, (other, one))

    def test_a_page_and_itself(self):
        for page in FORMS:
            self.assertIs(stands_ahead(page, page), False)
            self.assertIs(stands_ahead(page, tuple(list(page))), False)

    def test_of_unlike_pages_just_one_stands_ahead(self):
        rng = random.Random(12)
        pages = [draw_page(rng, days=3) for _ in range(120)]
        for one, other in itertools.product(pages, repeat=2):
            self.assertEqual(stands_ahead(one, other) + stands_ahead(other, one), int(one != other))


class InOrderTest(unittest.TestCase):
    def test_none(self):
        self.assertEqual(in_order([]), ())
        self.assertEqual(in_order(()), ())

    def test_ordinary(self):
        told = in_order([
            ("visit", 3, "a", "b"), ("house", 3, "b", ()), ("card", 2, "a", "b"), ("house", 3, "a", ()),
            ("part", 3, "a", "c", ()), ("visit", 3, "a", "b"), ("mourn", 3, "a", 2), ("join", 3, "a", "b"),
            ("ahead", 3, "a", "b"), ("home", 3, "a", ()), ("card", 3, "a", "b"), ("house", 3, "b", ()),
        ])
        self.assertEqual(told, (
            ("card", 2, "a", "b"), ("house", 3, "a", ()), ("house", 3, "b", ()), ("part", 3, "a", "c", ()),
            ("join", 3, "a", "b"), ("home", 3, "a", ()), ("mourn", 3, "a", 2), ("ahead", 3, "a", "b"),
            ("card", 3, "a", "b"), ("visit", 3, "a", "b"),
        ))

    def test_drawn(self):
        rng = random.Random(13)
        for _ in range(60):
            book = draw_book(rng, days=4)
            some = list(book) + [rng.choice(book) for _ in range(20) if book]
            rng.shuffle(some)
            kept = list(some)
            told = in_order(some)
            self.assertEqual(told, book)
            self.assertIs(type(told), tuple)
            self.assertEqual(in_order(tuple(some)), told)
            self.assertEqual(some, kept)
            for k in range(len(told) - 1):
                self.assertTrue(stands_ahead(told[k], told[k + 1]))
            self.assertEqual(set(told), set(some))
            some.clear()
            self.assertEqual(told, book)


if __name__ == "__main__":
    unittest.main()
