import random
import unittest

from cardsback.pages import in_order
from cardsback.texts import book_lines, cases_line, due_line, page_line
from cardsback.walking import dues
from tests.secondwalk import draw_terms, draw_walk_book
from tests.things import draw_book

AB = (("a", "b"), ("b", "a"))
ABC = (("ash", "b"), ("b", "c"), ("c", "ash"))


class PageLineTest(unittest.TestCase):
    def test_each_kind(self):
        for page, line in (
                (("house", 3, "ash", (0, 3, 6)), "house 3 ash 036"),
                (("part", 12, "ash", "fern", (0, 3, 5)), "part 12 ash fern 035"),
                (("join", 9999, "ash", "fern"), "join 9999 ash fern"),
                (("home", 10, "ash", (5,)), "home 10 ash 5"),
                (("mourn", 9, "ash", 14), "mourn 9 ash 14"),
                (("ahead", 7, "fern", "ash"), "ahead 7 fern ash"),
                (("card", 1, "a", "abcdefgh"), "card 1 a abcdefgh"),
                (("visit", 100, "b", "a"), "visit 100 b a")):
            self.assertEqual(page_line(page), line)
            self.assertIs(type(page_line(page)), str)

    def test_homes_of_none(self):
        self.assertEqual(page_line(("house", 1, "ash", ())), "house 1 ash -")
        self.assertEqual(page_line(("part", 1, "ash", "elm", ())), "part 1 ash elm -")
        self.assertEqual(page_line(("home", 1, "ash", ())), "home 1 ash -")

    def test_numbers(self):
        self.assertEqual(page_line(("house", 0, "ash", (0,))), "house 0 ash 0")
        self.assertEqual(page_line(("mourn", 0, "ash", 1)), "mourn 0 ash 1")
        self.assertEqual(page_line(("home", 20, "ash", tuple(range(7)))), "home 20 ash 0123456")


class BookLinesTest(unittest.TestCase):
    def test_books(self):
        self.assertEqual(book_lines(()), [])
        book = in_order([("visit", 1, "ash", "elm"), ("house", 1, "ash", ()), ("mourn", 0, "elm", 60)])
        self.assertEqual(book_lines(book), ["mourn 0 elm 60", "house 1 ash -", "visit 1 ash elm"])

    def test_the_list_is_the_askers_own(self):
        book = (("house", 1, "ash", ()),)
        told = book_lines(book)
        told.append("more")
        self.assertEqual(book_lines(book), ["house 1 ash -"])

    def test_drawn(self):
        rng = random.Random(81)
        for _ in range(60):
            book = draw_book(rng)
            kept = repr(book)
            lines = book_lines(book)
            self.assertIs(type(lines), list)
            self.assertEqual(lines, [page_line(page) for page in book])
            self.assertEqual(len(set(lines)), len(book))
            self.assertEqual(repr(book), kept)


class DueLineTest(unittest.TestCase):
    def test_falls(self):
        page = ("visit", 3, "ash", "elm")
        self.assertEqual(due_line(("elm", "ash", "visit", page, ())), "elm ash visit - visit 3 ash elm")
        self.assertEqual(due_line(("elm", "ash", "card", page, (4,))), "elm ash card 4 visit 3 ash elm")
        self.assertEqual(due_line(("fern", "oak", "card", ("card", 0, "ash", "elm"), (1, 2, 10, 9999))),
                         "fern oak card 1,2,10,9999 card 0 ash elm")

    def test_drawn(self):
        rng = random.Random(82)
        lines = []
        for _ in range(60):
            book = draw_walk_book(rng)
            for due in dues(book, draw_terms(rng), 35):
                words = due_line(due).split(" ")
                self.assertEqual(words[:3], list(due[:3]))
                self.assertEqual([int(day) for day in words[3].split(",") if day != "-"], list(due[4]))
                self.assertEqual(" ".join(words[4:]), page_line(due[3]))
                lines.append(words[3])
        self.assertIn("-", lines)


def line_by_calls(node):
    """CASES written by calls within calls, part by part."""
    word, some, *rest = node
    if word == "rings":
        return " ".join([word, str(len(some))] + [">".join(a for a, b in ring) for ring in some])
    line = word + " " + (">".join(a for a, b in some) if word == "one" else ",".join(some))
    for parts in rest:
        line = " ".join([line, str(len(parts))] + [line_by_calls(part) for part in parts])
    return line


RINGS = (AB, ABC, AB[::-1], ABC[1:] + ABC[:1])


def draw_node(rng, depth):
    names = tuple(rng.choice(("a", "ash", "elm", "fern")) for _ in range(rng.randint(1, 4)))
    rings = tuple(rng.choice(RINGS) for _ in range(rng.randint(1, 3)))
    parts = tuple(draw_node(rng, depth - 1) for _ in range(rng.randint(0, 3))) if depth else ()
    return rng.choice((("apart", names), ("short", names), ("more", names, parts), ("more", names, parts),
                       ("rings", rings), ("one", rings[0], parts), ("one", rings[0], parts)))


class CasesLineTest(unittest.TestCase):
    def test_none(self):
        self.assertEqual(cases_line(None), "none")

    def test_each_form(self):
        for cases, line in (
                (("apart", ("ash",)), "apart ash"),
                (("apart", ("ash", "elm", "fern")), "apart ash,elm,fern"),
                (("short", ("ash", "elm")), "short ash,elm"),
                (("more", ("ash",), ()), "more ash 0"),
                (("more", ("ash", "elm"), (("short", ("ash",)), ("apart", ("elm", "fern")))),
                 "more ash,elm 2 short ash apart elm,fern"),
                (("rings", (AB,)), "rings 1 a>b"),
                (("rings", (AB, ABC)), "rings 2 a>b ash>b>c"),
                (("one", ABC, ()), "one ash>b>c 0"),
                (("one", AB, (("rings", (ABC,)), ("one", AB, ()))), "one a>b 2 rings 1 ash>b>c one a>b 0")):
            self.assertEqual(cases_line(cases), line)

    def test_names_as_they_stand(self):
        self.assertEqual(cases_line(("short", ("fern", "ash", "ash"))), "short fern,ash,ash")

    def test_many_parts(self):
        parts = tuple(("short", (chr(97 + k),)) for k in range(26))
        words = " ".join(f"short {chr(97 + k)}" for k in range(26))
        self.assertEqual(cases_line(("more", ("ash",), parts)), "more ash 26 " + words)

    def test_a_node_ahead_of_its_parts(self):
        inner = ("more", ("b",), (("short", ("c",)), ("short", ("d",))))
        cases = ("more", ("a",), (inner, ("apart", ("e",)), ("more", ("f",), (inner,))))
        self.assertEqual(cases_line(cases),
                         "more a 3 more b 2 short c short d apart e more f 1 more b 2 short c short d")

    def test_both_sorts_mixed(self):
        cases = ("one", AB, (("more", ("ash",), (("rings", (ABC, AB)), ("short", ("elm",)))), ("apart", ("fern",))))
        self.assertEqual(cases_line(cases), "one a>b 2 more ash 2 rings 2 ash>b>c a>b short elm apart fern")

    def test_however_many_within_one_another(self):
        for deep in (1, 29, 30, 31, 39, 200, 20000):
            more, one = ("short", ("a",)), ("rings", (AB,))
            for _ in range(deep):
                more, one = ("more", ("b",), (more,)), ("one", AB, (one,))
            self.assertEqual(cases_line(more), "more b 1 " * deep + "short a")
            self.assertEqual(cases_line(one), "one a>b 1 " * deep + "rings 1 a>b")

    def test_drawn(self):
        rng = random.Random(83)
        for _ in range(300):
            cases = draw_node(rng, rng.randint(0, 4))
            kept = repr(cases)
            self.assertEqual(cases_line(cases), line_by_calls(cases))
            self.assertEqual(repr(cases), kept)


if __name__ == "__main__":
    unittest.main()
