import random
import unittest

from cardsback.errors import NoText
from cardsback.fewest import fewest
from cardsback.pages import in_order, is_page
from cardsback.readings import read_book, read_cases, read_page
from cardsback.texts import book_lines, cases_line, page_line
from tests.readingchecks import ODD_WORDS, cases_fault, line_fault, reworded
from tests.test_texts import AB, ABC, draw_node
from tests.things import draw_book, draw_page, outcome, refusal
from tests.wantschecks import drawn_wants

PAGES = (
    ("house", 3, "ash", (0, 3, 6)), ("house", 0, "a", ()), ("part", 12, "ash", "fern", (0, 3, 5)),
    ("part", 9999, "ash", "abcdefgh", ()), ("join", 9999, "ash", "fern"), ("home", 10, "ash", (5,)),
    ("home", 100, "z", tuple(range(7))), ("mourn", 9, "ash", 14), ("mourn", 9, "ash", 1), ("mourn", 0, "ash", 60),
    ("ahead", 7, "fern", "ash"), ("card", 1, "a", "abcdefgh"), ("visit", 100, "b", "a"), ("card", 5, "card", "visit"),
    ("house", 1, "house", (1,)), ("part", 1, "part", "join", (1,)),
)


def deep(node, many, around):
    """A node within so many others."""
    for _ in range(many):
        node = around(node)
    return node


def more(node):
    return ("more", ("b",), (node,))


def one(node):
    return ("one", AB, (node,))


class RefusedTest(unittest.TestCase):
    def check(self, function, thing, row, word):
        error = refusal(function, thing)
        self.assertIs(type(error), NoText, thing)
        self.assertEqual(repr((error.row, error.word)), repr((row, word)), thing)


class ReadPageTest(RefusedTest):
    def test_each_line_that_is_written_is_read_as_what_it_was(self):
        for page in PAGES:
            self.assertEqual(repr(read_page(page_line(page))), repr(page))
        rng = random.Random(341)
        for _ in range(500):
            page = draw_page(rng, days=10000)
            self.assertEqual(repr(read_page(page_line(page))), repr(page))

    def test_the_text_without_signs(self):
        self.check(read_page, "", 0, 0)
        self.check(read_page, " ", 0, 0)

    def test_kinds(self):
        for line in ("houses 3 ash 036", "House 3 ash 036", "3 house ash 036", "none", "hous", "due 3 ash elm", "-"):
            self.check(read_page, line, 0, 0)

    def test_days(self):
        for word in ("10000", "-1", "03", "00", "", "ash", "+3", "3.0", "1_0", "9" * 4000, "0x3", "3,"):
            self.check(read_page, f"card {word} ash elm", 0, 1)
        for day in (0, 9, 10, 9999):
            self.assertEqual(read_page(f"card {day} ash elm"), ("card", day, "ash", "elm"))

    def test_names(self):
        for word in ("", "Ash", "abcdefghi", "as1", "3", "-", "a,b"):
            self.check(read_page, f"card 3 {word} elm", 0, 2)
            self.check(read_page, f"card 3 elm {word}", 0, 3)
            self.check(read_page, f"mourn 3 {word} 9", 0, 2)

    def test_the_second_name_like_the_first(self):
        for kind in ("join", "ahead", "card", "visit"):
            self.check(read_page, f"{kind} 3 ash ash", 0, 3)
            self.check(read_page, f"{kind} 3 ash ash more", 0, 3)
        self.check(read_page, "part 3 ash ash 036", 0, 3)
        self.check(read_page, "part 3 ash ash 630", 0, 3)

    def test_homes(self):
        for word in ("", "7", "07", "00", "10", "0122", "--", "-0", "a", "01234567", "0,1", "0123456" * 500):
            self.check(read_page, f"house 3 ash {word}", 0, 3)
            self.check(read_page, f"home 3 ash {word}", 0, 3)
            self.check(read_page, f"part 3 ash elm {word}", 0, 4)

    def test_how_many_days_of_mourning(self):
        for word in ("0", "61", "01", "060", "-1", "", "100", "ash", "6.", "9" * 4000):
            self.check(read_page, f"mourn 3 ash {word}", 0, 3)
        for many in (1, 9, 10, 59, 60):
            self.assertEqual(read_page(f"mourn 3 ash {many}"), ("mourn", 3, "ash", many))

    def test_words_that_lack_and_words_too_many(self):
        for page in PAGES:
            words = page_line(page).split(" ")
            for k in range(1, len(words)):
                self.check(read_page, " ".join(words[:k]), 0, k)
            for word in ODD_WORDS:
                self.check(read_page, " ".join(words + [word]), 0, len(words))
                self.check(read_page, " ".join(words + [word, word]), 0, len(words))

    def test_blanks(self):
        self.check(read_page, " card 3 ash elm", 0, 0)
        self.check(read_page, "card  3 ash elm", 0, 1)
        self.check(read_page, "card 3  ash elm", 0, 2)
        self.check(read_page, "card 3 ash  elm", 0, 3)
        self.check(read_page, "card 3 ash elm ", 0, 4)
        self.check(read_page, "card 3 ash ", 0, 3)

    def test_the_first_word_that_can_not_stand(self):
        self.check(read_page, "due x Ash Ash 9", 0, 0)
        self.check(read_page, "card x Ash Ash 9", 0, 1)
        self.check(read_page, "card 3 Ash Ash 9", 0, 2)
        self.check(read_page, "card 3 ash Ash 9", 0, 3)

    def test_each_word_of_each_kind_otherwise(self):
        told = []
        for page in PAGES:
            words = page_line(page).split(" ")
            for k in range(len(words)):
                others = [words[:k] + [word] + words[k + 1:] for word in ODD_WORDS]
                others += [words[:k] + words[k + 1:], words[:k] + words[k:k + 1] + words[k:]]
                for line in [" ".join(other) for other in others]:
                    told.append(self.check_line(line))
        self.assertEqual(set(told), {None, 0, 1, 2, 3, 4, 5})

    def check_line(self, line):
        """What is told of a line is what the second reading tells."""
        fault = line_fault(line)
        if fault is None:
            page = read_page(line)
            self.assertTrue(is_page(page))
            self.assertEqual(page_line(page), line)
        else:
            self.check(read_page, line, 0, fault)
        return fault

    def test_drawn(self):
        rng = random.Random(342)
        told = []
        for _ in range(3000):
            line = page_line(rng.choice(PAGES))
            for _ in range(rng.randint(1, 2)):
                line = reworded(rng, line)
            told.append(self.check_line(line))
        self.assertEqual(set(told), {None, 0, 1, 2, 3, 4, 5})


class ReadBookTest(RefusedTest):
    def test_no_lines(self):
        self.assertEqual(read_book([]), ())

    def test_each_book_that_is_written_is_read_as_what_it_was(self):
        rng = random.Random(343)
        for _ in range(60):
            book = draw_book(rng)
            self.assertEqual(repr(read_book(book_lines(book))), repr(book))

    def test_in_any_order_some_twice(self):
        rng = random.Random(344)
        for _ in range(60):
            book = draw_book(rng)
            lines = book_lines(book)
            lines += [rng.choice(lines) for _ in range(5) if lines]
            rng.shuffle(lines)
            kept = list(lines)
            self.assertEqual(repr(read_book(lines)), repr(book))
            self.assertEqual(lines, kept)

    def test_more_than_eighty(self):
        book = in_order([("card", day, "ash", "elm") for day in range(300)])
        self.assertEqual(read_book(book_lines(book)[::-1]), book)

    def test_the_first_line_that_is_none(self):
        good = ["visit 9 ash elm", "house 1 ash 036", "visit 9 ash elm"]
        self.check(read_book, [""], 0, 0)
        self.check(read_book, good + [""], 3, 0)
        self.check(read_book, good + ["card 3 ash", "cards"], 3, 3)
        self.check(read_book, ["mourn 3 ash 61"] + good + ["cards"], 0, 3)
        self.check(read_book, good[:1] + ["part 3 ash elm 63 "] + good, 1, 4)
        self.check(read_book, good * 3 + ["house 1 ash 036 "], 9, 4)

    def test_drawn(self):
        rng = random.Random(345)
        for _ in range(150):
            lines = [page_line(rng.choice(PAGES)) for _ in range(rng.randint(1, 6))]
            for _ in range(rng.randint(0, 2)):
                k = rng.randrange(len(lines))
                lines[k] = reworded(rng, lines[k])
            faults = [(row, line_fault(line)) for row, line in enumerate(lines) if line_fault(line) is not None]
            if faults:
                self.check(read_book, lines, *faults[0])
            else:
                self.assertEqual(read_book(lines), in_order([read_page(line) for line in lines]))


class ReadCasesTest(RefusedTest):
    def check_read(self, cases):
        self.assertEqual(repr(read_cases(cases_line(cases))), repr(cases))

    def test_none(self):
        self.assertIsNone(read_cases("none"))
        for text in ("none none", "none ", "none apart a", "none  "):
            self.check(read_cases, text, 0, 1)
        self.check(read_cases, "more a 1 none", 0, 3)
        self.check(read_cases, " none", 0, 0)

    def test_each_form(self):
        for cases in (("apart", ("ash",)), ("short", ("ash", "elm")), ("more", ("ash",), ()), ("rings", (AB,)),
                      ("more", ("a", "b"), (("short", ("a",)), ("apart", ("b",)))), ("rings", (ABC, AB, ABC)),
                      ("one", ABC, ()), ("one", AB, (("rings", (ABC,)), ("one", AB, ())))):
            self.check_read(cases)

    def test_the_parts_of_a_ring(self):
        self.assertEqual(read_cases("one a>b>ash 0"), ("one", (("a", "b"), ("b", "ash"), ("ash", "a")), ()))
        self.assertEqual(read_cases("rings 2 a>b z>y"),
                         ("rings", ((("a", "b"), ("b", "a")), (("z", "y"), ("y", "z")))))

    def test_names_in_any_order_and_several_times(self):
        self.check_read(("short", ("fern", "ash", "ash", "elm", "fern")))
        self.check_read(("more", ("b", "a", "a"), (("apart", ("z", "z")),)))

    def test_both_sorts_mixed(self):
        self.check_read(("one", AB, (("more", ("ash",), (("rings", (ABC, AB)), ("short", ("elm",)))),
                                     ("apart", ("fern",)), ("one", ABC, (("more", ("a",), ()),)))))

    def test_the_text_without_signs(self):
        self.check(read_cases, "", 0, 0)
        self.check(read_cases, " ", 0, 0)

    def test_none_of_the_five_words(self):
        for word in ("", "Apart", "two", "ring", "house", "0", "-"):
            self.check(read_cases, f"{word} ash", 0, 0)
            self.check(read_cases, f"more ash 2 apart ash {word} ash", 0, 5)

    def test_names(self):
        for word in ("", "Ash", "ash,", ",ash", "ash,,elm", "abcdefghi", "ash,abcdefghi", "a>b", "0", "-", "ash;elm"):
            for kind in ("apart", "short", "more"):
                self.check(read_cases, f"{kind} {word}", 0, 1)
                self.check(read_cases, f"{kind} {word} 0", 0, 1)

    def test_rings(self):
        for word in ("", "a", "a>a", "a>b>a", "a>b>b", "a>", ">a", "a>>b", "a,b", "a>B", "a>abcdefghi", "0"):
            self.check(read_cases, f"one {word} 0", 0, 1)
            self.check(read_cases, f"rings 2 a>b {word}", 0, 3)

    def test_how_many(self):
        for many in (0, 1, 9, 10, 59, 60):
            self.check_read(("more", ("a",), (("short", ("b",)),) * many))
            self.check_read(("one", AB, (("short", ("b",)),) * many))
            if many:
                self.check_read(("rings", (ABC,) * many))
        for word in ("61", "00", "01", "-1", "060", "", "a", "600", "9" * 3000, "1.0"):
            for text in ("more a", "one a>b", "rings"):
                self.check(read_cases, f"{text} {word}" + " short b" * 61, 0, text.count(" ") + 1)
        self.check(read_cases, "rings 0", 0, 1)
        self.check(read_cases, "rings 0 a>b", 0, 1)
        self.check(read_cases, "more a 1 rings 0", 0, 4)

    def test_words_that_lack(self):
        for text in ("apart", "short", "more", "rings", "one", "more a", "one a>b", "rings 1", "rings 2 a>b",
                     "more a 1", "one a>b 2 short a", "more a 2 more b 1 short c", "more a 1 more b", "more a 1 one"):
            self.check(read_cases, text, 0, text.count(" ") + 1)

    def test_words_too_many(self):
        for text in ("apart a", "short a,b", "more a 0", "rings 1 a>b", "one a>b 0", "more a 1 short b",
                     "one a>b 2 short a rings 1 a>b"):
            for word in ODD_WORDS:
                self.check(read_cases, f"{text} {word}", 0, text.count(" ") + 1)

    def test_blanks(self):
        self.check(read_cases, " short a", 0, 0)
        self.check(read_cases, "short  a", 0, 1)
        self.check(read_cases, "more a  0", 0, 2)
        self.check(read_cases, "more a 1  short a", 0, 3)
        self.check(read_cases, "short a ", 0, 2)

    def test_thirty_within_one_another_and_one_more(self):
        for around, leaf in ((more, ("short", ("a",))), (one, ("rings", (AB,))), (one, ("more", ("a",), ()))):
            for many in (1, 28, 29):
                self.check_read(deep(leaf, many, around))
            for many in (30, 31, 200):
                self.check(read_cases, cases_line(deep(leaf, many, around)), 0, 90)

    def test_one_more_behind_others(self):
        # The nodes of the first part are within one another; those of the second go one deeper.
        cases = ("more", ("a",), (deep(("short", ("b",)), 28, more), deep(("short", ("b",)), 29, one)))
        self.check(read_cases, cases_line(cases), 0, 3 + 28 * 3 + 2 + 29 * 3)
        self.check_read(("more", ("a",), (deep(("short", ("b",)), 28, more),) * 60))

    def test_a_node_that_has_no_parts_may_stand_within_29(self):
        self.check_read(deep(("more", ("a",), ()), 29, more))
        self.check(read_cases, cases_line(deep(("more", ("a",), ()), 30, more)), 0, 90)

    def test_cases_of_wants(self):
        read = 0
        for wants, most in drawn_wants(346, 200, share=0.5):
            if refusal(fewest, wants, most) is None:
                self.check_read(fewest(wants, most)[1])
                read += 1
        self.assertGreater(read, 50)

    def test_drawn(self):
        rng = random.Random(347)
        for _ in range(300):
            self.check_read(draw_node(rng, rng.randint(0, 4)) if rng.random() < 0.9 else None)

    def test_drawn_otherwise(self):
        rng = random.Random(348)
        told = []
        for _ in range(3000):
            text = cases_line(draw_node(rng, rng.randint(0, 3)) if rng.random() < 0.95 else None)
            for _ in range(rng.randint(1, 2)):
                text = reworded(rng, text)
            fault = cases_fault(text)
            told.append(fault)
            if fault is None:
                self.assertEqual(cases_line(read_cases(text)), text)
            else:
                self.check(read_cases, text, 0, fault)
        self.assertLessEqual({None, *range(12)}, set(told))


class AgainTest(unittest.TestCase):
    def test_the_same_is_told_again(self):
        rng = random.Random(349)
        asked = [(read_page, reworded(rng, page_line(page))) for page in PAGES]
        asked += [(read_page, page_line(page)) for page in PAGES]
        asked += [(read_book, [page_line(page) for page in PAGES]), (read_cases, "one a>b 1 short a")]
        told = [outcome(function, thing) for function, thing in asked]
        for function, thing in rng.sample(asked, len(asked)):
            self.assertEqual(outcome(function, thing), told[asked.index((function, thing))])


if __name__ == "__main__":
    unittest.main()
