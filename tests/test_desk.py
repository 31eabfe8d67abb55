import random
import re
import unittest

from cardsback.albums import Album
from cardsback.bookranks import ranks
from cardsback.desk import Desk
from cardsback.errors import NoBack, NoCrowd, NoHouse, NoOrder, NoPage, NoRow, TooMany
from cardsback.owing import owes
from cardsback.pages import in_order
from cardsback.plans import home_worth, plan
from cardsback.readings import read_page
from cardsback.rudes import rude
from cardsback.texts import page_line
from cardsback.walking import dues
from cardsback.wanted import wanted
from tests.readingchecks import DAY, HOME, NAME, ODD_WORDS, SIXTY, reworded
from tests.secondwalk import draw_terms, draw_walk_book
from tests.things import outcome, refusal

START = ("house 0 ash 0123456", "house 0 elm 0123456", "house 0 fern 0123456")

TWO = f"(?P<a>{NAME}) (?!(?P=a)(?: |$))(?:{NAME})"
PAGE = "|".join([f"(?:house|home) (?:{DAY}) (?:{NAME}) (?:{HOME})", f"mourn (?:{DAY}) (?:{NAME}) (?:{SIXTY})",
                 f"(?:join|ahead|card|visit) (?:{DAY}) {TWO}",
                 f"part (?:{DAY}) {TWO.replace('<a>', '<c>').replace('=a', '=c')} (?:{HOME})"])
FAR = "[1-9]|1[0-9]|2[0-8]"
K = "0|[1-9][0-9]{0,5}"

# Behind the word and the ALBUM, in the order of the interface.
REST = {
    "album": f"(?:{SIXTY}) (?:{SIXTY})", "tell": PAGE, "strike": PAGE, "take": "one|other", "back": None, "deeds": None,
    "book": None, "elder": K, "dues": DAY, "owes": f"(?:{DAY}) {NAME} {NAME}", "rude": DAY, "ranks": DAY,
    "wanted": f"(?:{DAY}) {NAME} (?:{FAR})", "plan": f"(?:{DAY}) {NAME} [1-4] (?:{FAR})",
    "worth": f"(?:{DAY}) {NAME} [1-4] (?:{FAR}) {NAME}",
}


def is_row(text):
    """Whether a text is a row of a desk that has the ALBUMS one and other."""
    words = text.split(" ")
    if words[0] not in REST or len(words) < 2:
        return False
    there = words[1] in ("one", "other")
    rest = REST[words[0]]
    if words[0] == "album":
        there = not there and re.fullmatch(NAME, words[1])
    if rest is None or len(words) == 2:
        return bool(there) and rest is None and len(words) == 2
    return bool(there and re.fullmatch(f"(?:{rest})", " ".join(words[2:])))


def desk_of(*pages, terms="5 3"):
    """A desk with the ALBUM one of three houses that are always at home, and of these lines."""
    desk = Desk()
    assert desk.say(f"album one {terms}") == "ok"
    for page in START + pages:
        assert desk.say(f"tell one {page}") == "new"
    return desk


def state(desk, names=("one", "other")):
    """All that there is of each ALBUM."""
    told = []
    for name in names:
        many = outcome(desk.say, f"deeds {name}")
        told.append((many, outcome(desk.say, f"book {name}")))
        if many.startswith("'"):
            told.append([desk.say(f"elder {name} {k}") for k in range(int(many[1:-1]) + 1)])
    return told


class RefusedTest(unittest.TestCase):
    def check_refused(self, desk, said, kind, **fields):
        before = state(desk)
        error = refusal(desk.say, said)
        self.assertIs(type(error), kind, said)
        self.assertEqual(vars(error), fields, said)
        self.assertEqual(state(desk), before, said)


class AlbumRowsTest(RefusedTest):
    def test_album(self):
        desk = Desk()
        self.assertEqual(desk.say("album one 1 60"), "ok")
        self.assertEqual(desk.say("album other 60 1"), "ok")
        self.assertEqual([desk.say("book one"), desk.say("book other"), desk.say("deeds one")], ["none", "none", "0"])

    def test_the_terms_are_those_told(self):
        for terms, last in (("2 4", 4), ("4 2", 6)):
            desk = desk_of("visit 2 ash elm", terms=terms)
            self.assertEqual(desk.say("rude one 30"), f"elm ash {last} visit 2 ash elm")
        desk = desk_of("card 2 ash elm", terms="2 4")
        self.assertEqual(desk.say("rude one 30"), "elm ash 6 card 2 ash elm")

    def test_a_third_album(self):
        desk = Desk()
        desk.say("album one 5 3")
        desk.say("album other 5 3")
        self.check_refused(desk, "album third 5 3", TooMany, word="albums")
        self.check_refused(desk, "album third 5 61", NoRow, row="album third 5 61")
        self.check_refused(desk, "album one 5 3", NoRow, row="album one 5 3")
        self.check_refused(desk, "book third", NoRow, row="book third")

    def test_one_of_a_name_that_is_there(self):
        desk = desk_of()
        for row in ("album one 5 3", "album one 6 4"):
            self.check_refused(desk, row, NoRow, row=row)
        self.assertEqual(desk.say("album other 5 3"), "ok")

    def test_an_album_that_there_is_not(self):
        desk = desk_of()
        for row in ("tell other card 1 ash elm", "strike other card 1 ash elm", "take one other", "take other one",
                    "back other", "deeds other", "book other", "elder other 0", "dues other 5", "owes other 5 ash elm",
                    "rude other 5", "ranks other 5", "wanted other 5 ash 9", "plan other 5 ash 2 9",
                    "worth other 5 ash 2 9 elm", "book One", "book on", "book"):
            self.check_refused(desk, row, NoRow, row=row)

    def test_names_of_albums_may_be_words(self):
        desk = Desk()
        self.assertEqual(desk.say("album album 5 3"), "ok")
        self.assertEqual(desk.say("album tell 5 3"), "ok")
        self.assertEqual(desk.say("tell tell card 1 card visit"), "new")
        self.assertEqual(desk.say("take album tell"), "1")
        self.assertEqual(desk.say("book album"), "card 1 card visit")

    def test_tell(self):
        desk = desk_of()
        self.assertEqual(desk.say("tell one mourn 9 ash 14"), "new")
        self.assertEqual(desk.say("tell one mourn 9 ash 14"), "there")
        self.assertEqual(desk.say("deeds one"), "4")
        self.assertEqual(desk.say("book one"), "; ".join(START) + "; mourn 9 ash 14")

    def test_each_kind_of_pages(self):
        desk = desk_of()
        for page in ("house 3 oak 036", "house 3 ivy -", "part 12 ash birch 035", "join 9999 ash fern", "home 0 ash 5",
                     "mourn 9 ash 60", "ahead 7 fern ash", "card 1 ash elm", "visit 1 elm ash"):
            self.assertEqual(desk.say(f"tell one {page}"), "new")
            self.assertEqual(desk.say("back one"), f"tell {page}")

    def test_strike(self):
        desk = desk_of("card 2 ash elm")
        self.check_refused(desk, "strike one card 3 ash elm", NoPage, page=("card", 3, "ash", "elm"))
        self.assertEqual(desk.say("strike one card 2 ash elm"), "ok")
        self.assertEqual(desk.say("book one"), "; ".join(START))
        self.check_refused(desk, "strike one card 2 ash elm", NoPage, page=("card", 2, "ash", "elm"))

    def test_take(self):
        desk = desk_of("card 2 ash elm")
        desk.say("album other 9 9")
        desk.say("tell other card 2 ash elm")
        desk.say("tell other card 3 ash elm")
        self.assertEqual(desk.say("take one one"), "0")
        self.assertEqual(desk.say("take one other"), "1")
        self.assertEqual(desk.say("take one other"), "0")
        self.assertEqual(desk.say("deeds one"), "5")
        self.assertEqual(desk.say("deeds other"), "2")
        self.assertEqual(desk.say("take other one"), "3")
        self.assertEqual(desk.say("book other"), desk.say("book one"))

    def test_what_was_taken_in_is_its_own(self):
        desk = desk_of()
        desk.say("album other 9 9")
        self.assertEqual(desk.say("take other one"), "3")
        desk.say("strike one house 0 ash 0123456")
        self.assertEqual(desk.say("book other"), "; ".join(START))
        self.assertEqual(desk.say("back other"), "take 3")
        self.assertEqual(desk.say("book one"), "; ".join(START[1:]))

    def test_back(self):
        desk = Desk()
        desk.say("album one 5 3")
        desk.say("album other 5 3")
        desk.say("tell other part 12 ash fern 035")
        self.check_refused(desk, "back one", NoBack)
        desk.say("tell one card 2 ash elm")
        desk.say("take one other")
        desk.say("strike one card 2 ash elm")
        told = [desk.say("back one") for _ in range(3)]
        self.assertEqual(told, ["strike card 2 ash elm", "take 1", "tell card 2 ash elm"])
        self.check_refused(desk, "back one", NoBack)
        self.assertEqual(desk.say("back other"), "tell part 12 ash fern 035")

    def test_elder(self):
        desk = desk_of()
        told = [desk.say(f"elder one {k}") for k in range(4)]
        self.assertEqual(told, ["none"] + ["; ".join(START[:k]) for k in (1, 2, 3)])
        for k in ("4", "80", "999999"):
            self.check_refused(desk, f"elder one {k}", TooMany, word="deeds")
        for k in ("1000000", "00", "01", "-1", "", "one"):
            self.check_refused(desk, f"elder one {k}", NoRow, row=f"elder one {k}")

    def test_more_than_eighty_pages(self):
        desk = desk_of(*[f"card {day} ash elm" for day in range(77)])
        self.check_refused(desk, "tell one card 77 ash elm", TooMany, word="pages")
        self.assertEqual(desk.say("tell one card 76 ash elm"), "there")
        desk.say("album other 5 3")
        desk.say("tell other card 77 ash elm")
        self.check_refused(desk, "take one other", TooMany, word="pages")
        self.check_refused(desk, "take other one", TooMany, word="pages")


class QuestionRowsTest(RefusedTest):
    def test_dues(self):
        desk = desk_of("card 2 ash elm", "visit 3 fern elm")
        self.assertEqual(desk.say("dues one 1"), "none")
        self.assertEqual(desk.say("dues one 2"), "elm ash card - card 2 ash elm")
        self.assertEqual(desk.say("dues one 4"),
                         "elm ash card 3,4 card 2 ash elm; elm fern visit 4 visit 3 fern elm")

    def test_owes(self):
        desk = desk_of("card 2 ash elm", "visit 3 ash elm", "card 3 ash fern", "card 3 elm ash")
        self.assertEqual(desk.say("owes one 4 elm ash"), "elm ash visit 4 visit 3 ash elm")
        self.assertEqual(desk.say("owes one 2 elm ash"), "elm ash card - card 2 ash elm")
        self.assertEqual(desk.say("owes one 4 ash elm"), "none")
        self.assertEqual(desk.say("owes one 4 ash ash"), "none")
        self.check_refused(desk, "owes one 4 oak ivy", NoHouse, name="oak")
        self.check_refused(desk, "owes one 4 ash ivy", NoHouse, name="ivy")

    def test_rude(self):
        desk = desk_of("card 2 ash elm", "visit 3 fern elm")
        self.assertEqual(desk.say("rude one 4"), "none")
        self.assertEqual(desk.say("rude one 5"), "elm ash 5 card 2 ash elm")
        self.assertEqual(desk.say("rude one 99"), "elm ash 5 card 2 ash elm; elm fern 8 visit 3 fern elm")

    def test_ranks(self):
        desk = desk_of("ahead 3 fern ash", "ahead 4 ash elm", "ahead 5 elm fern")
        self.assertEqual(desk.say("ranks one 2"), "order ash elm fern")
        self.assertEqual(desk.say("ranks one 3"), "order elm fern ash")
        self.assertEqual(desk.say("ranks one 4"), "order fern ash elm")
        told = desk.say("ranks one 5")
        self.assertIn(told, ("ring ash elm fern", "ring elm fern ash", "ring fern ash elm"))
        desk.say("album other 5 3")
        self.assertEqual(desk.say("ranks other 5"), "order")

    def test_wanted(self):
        desk = desk_of("visit 2 ash elm", "card 2 fern elm", "home 2 ash 56")
        self.assertEqual(desk.say("wanted one 2 elm 28"), "ash visit 5,6; fern card 3,4,5")
        self.assertEqual(desk.say("wanted one 2 elm 3"), "fern card 3,4,5")
        self.assertEqual(desk.say("wanted one 2 elm 2"), "none")
        self.assertEqual(desk.say("wanted one 2 ash 28"), "none")
        desk.say("tell one home 2 ash 1")
        desk.say("strike one home 2 ash 56")
        self.assertEqual(desk.say("wanted one 2 elm 28"), "ash visit -; fern card 3,4,5")
        self.check_refused(desk, "wanted one 2 oak 28", NoHouse, name="oak")

    def test_plan(self):
        desk = desk_of("visit 2 ash elm", "card 2 fern elm", "home 2 ash 5", "ahead 2 fern ash")
        self.assertEqual(desk.say("plan one 2 elm 2 28"), "card 5 elm fern; visit 5 elm ash")
        self.assertEqual(desk.say("plan one 2 fern 2 28"), "none")
        told = desk.say("plan one 2 elm 1 28")
        self.assertIn(told, ("card 3 elm fern; visit 5 elm ash", "card 4 elm fern; visit 5 elm ash"))

    def test_plan_refused(self):
        desk = desk_of("visit 2 ash elm", "home 2 ash -", "ahead 3 ash elm", "ahead 3 elm ash")
        self.check_refused(desk, "plan one 3 oak 2 28", NoHouse, name="oak")
        self.assertIs(type(refusal(desk.say, "plan one 3 elm 2 28")), NoOrder)
        self.check_refused(desk, "plan one 2 elm 2 28", NoCrowd, names=("ash",))
        pages = [f"house 0 {name} {k}" for k, name in enumerate("abcde")] + [f"visit {7 + k} {name} elm"
                                                                              for k, name in enumerate("abcde")]
        desk = desk_of(*pages, terms="20 20")
        self.check_refused(desk, "plan one 12 elm 4 28", TooMany, word="goings")
        self.check_refused(desk, "worth one 12 elm 4 28 ash", TooMany, word="goings")

    def test_worth(self):
        desk = desk_of("visit 2 ash elm", "visit 2 fern elm", "home 2 ash 5", "home 2 fern 6")
        self.assertEqual(desk.say("worth one 2 elm 2 28 fern"), "2 2 2 2 2 1 2")
        self.assertEqual(desk.say("worth one 2 elm 1 28 fern"), "2 2 2 2 2 2 2")
        desk.say("tell one home 3 ash -")
        self.assertEqual(desk.say("worth one 3 elm 2 28 ash"), "2 - - - 2 2 1")
        self.assertEqual(desk.say("worth one 3 fern 2 28 fern"), "0 0 0 0 0 0 0")
        self.check_refused(desk, "worth one 3 oak 2 28 ivy", NoHouse, name="oak")
        self.check_refused(desk, "worth one 3 elm 2 28 ivy", NoHouse, name="ivy")

    def test_nothing_there(self):
        desk = Desk()
        desk.say("album one 5 3")
        for row, told in (("book one", "none"), ("elder one 0", "none"), ("dues one 0", "none"), ("rude one 9", "none"),
                          ("ranks one 9999", "order"), ("deeds one", "0"), ("take one one", "0")):
            self.assertEqual(desk.say(row), told)


ROWS = ("album third 5 3", "tell one card 9 ash elm", "strike one house 0 ash 0123456", "take one other", "back one",
        "deeds one", "book one", "elder one 2", "dues one 5", "owes one 5 elm ash", "rude one 9", "ranks one 5",
        "wanted one 5 elm 28", "plan one 5 elm 4 28", "worth one 5 elm 1 1 ash")
MORE_ROWS = ("tell one part 9 ash oak 036", "tell one mourn 9 ash 60", "tell other house 9 oak -", "take other other",
             "elder one 999999", "owes one 9999 never never", "plan one 0 elm 1 1", "tell one join 0 elm ash",
             "strike other ahead 9999 elm ash", "tell one home 3 ash 6", "tell one visit 3 one other")


class NoRowTest(RefusedTest):
    def fresh(self):
        desk = desk_of("card 3 ash elm")
        desk.say("album other 60 1")
        desk.say("tell other visit 9 elm ash")
        return desk

    def check(self, row):
        """A row is refused with NoRow, where the patterns have it so, and turns nothing then."""
        right = is_row(row)
        desk = self.fresh()
        if right:
            self.assertIsNot(type(refusal(desk.say, row)), NoRow, row)
        else:
            before = state(desk)
            error = refusal(desk.say, row)
            self.assertIs(type(error), NoRow, row)
            self.assertIs(error.row, row)
            self.assertEqual(state(desk), before)
        return right

    def test_there_are_fifteen_rows(self):
        self.assertEqual(sorted(row.split(" ")[0] for row in ROWS), sorted(REST))
        self.assertEqual(len(REST), 15)
        for row in ROWS + MORE_ROWS:
            self.assertTrue(self.check(row), row)

    def test_each_row_with_a_word_left_out_or_too_many(self):
        for row in ROWS + MORE_ROWS:
            words = row.split(" ")
            for k in range(len(words)):
                self.assertFalse(self.check(" ".join(words[:k] + words[k + 1:])))
                self.assertFalse(self.check(" ".join(words[:k] + [""] + words[k:])))
                self.assertFalse(self.check(" ".join(words[:k] + words[k:k + 1] + words[k:])))
            for word in ("", "one", "1", "-", "ash", "tell"):
                self.assertFalse(self.check(f"{row} {word}"))

    def test_each_word_otherwise(self):
        told = set()
        for row in ROWS + MORE_ROWS:
            words = row.split(" ")
            for k in range(len(words)):
                for word in ODD_WORDS + ("one", "other", "third", "1000000", "28", "29", "4", "5"):
                    told.add(self.check(" ".join(words[:k] + [word] + words[k + 1:])))
        self.assertEqual(told, {True, False})

    def test_texts_that_are_none(self):
        for row in ("", " ", "one", "Album third 5 3", "tell", "tell one", "tell one ", "help", "none", "ok", "a b c",
                    "tell one due 3 ash elm", "tell one card 3 ash ash", "tell one card 3 ash elm; card 4 ash elm",
                    "dues one ash", "dues one 10000", "dues one 05", "~" * 4000, "rude one -1", "take one third",
                    "plan one 5 elm 5 28", "plan one 5 elm 0 28", "plan one 5 elm 2 29", "plan one 5 elm 2 0",
                    "wanted one 5 Elm 9", "worth one 5 elm 2 9", "album third 0 3", "album third 61 3",
                    "album third 5 0", "album Third 5 3", "album third 5", "album third 5 3 1", "album abcdefghi 5 3"):
            self.assertFalse(self.check(row))

    def test_bounds(self):
        for row in ("album third 1 60", "album third 60 1", "dues one 0", "dues one 9999", "wanted one 9 elm 1",
                    "wanted one 9 elm 28", "plan one 9 elm 1 28", "plan one 9 elm 4 1", "elder one 0",
                    "elder one 999999"):
            self.assertTrue(self.check(row))

    def test_ahead_of_all_else(self):
        # Each of these would be refused otherwise, were it a row.
        desk = self.fresh()
        for row in ("album third 5 61", "strike one card 99 ash elm ", "elder one 1000000", "back third",
                    "owes one 5 never 3", "wanted one 5 never 29", "plan one 5 never 5 28", "worth one 5 never 1 1 3"):
            self.check_refused(desk, row, NoRow, row=row)

    def test_drawn(self):
        rng = random.Random(351)
        told = []
        for _ in range(2500):
            row = rng.choice(ROWS + MORE_ROWS)
            for _ in range(rng.randint(1, 2)):
                row = reworded(rng, row, ODD_WORDS + ("one", "other", "third"))
            told.append(self.check(row))
        self.assertGreater(min(told.count(True), told.count(False)), 100)


def listed(lines):
    return "; ".join(lines) if lines else "none"


def days_of(days):
    return ",".join(str(day) for day in days) if days else "-"


class Second:
    """A second desk: ALBUMS that are asked by functions of the program, and what is told written here."""

    def __init__(self):
        self.albums = {}

    def say(self, row):
        word, *rest = row.split(" ")
        things = [int(part) if part.isdigit() else part for part in rest]
        if word == "album":
            self.albums[things[0]] = Album(tuple(things[1:]))
            return "ok"
        album = self.albums[things[0]]
        if word in ("tell", "strike"):
            things[1:] = [read_page(" ".join(rest[1:]))]
        return getattr(self, word)(album, *things[1:])

    def tell(self, album, page):
        return {True: "new", False: "there"}[album.tell(page)]

    def strike(self, album, page):
        return {None: "ok"}[album.strike(page)]

    def take(self, album, other):
        return str(album.take_in(self.albums[other]))

    def back(self, album):
        word, what = album.back()
        return f"{word} {len(what)}" if word == "take" else f"{word} {page_line(what)}"

    def deeds(self, album):
        return str(album.deeds())

    def book(self, album):
        return listed([page_line(page) for page in album.book()])

    def elder(self, album, k):
        return listed([page_line(page) for page in album.elder(k)])

    def due(self, row):
        return " ".join((*row[:3], days_of(row[4]), page_line(row[3])))

    def dues(self, album, day):
        return listed([self.due(due) for due in dues(album.book(), album.terms(), day)])

    def owes(self, album, day, a, b):
        return listed([self.due(due) for due in owes(album.book(), album.terms(), day, a, b)])

    def rude(self, album, day):
        rows = rude(album.book(), album.terms(), day)
        return listed([f"{row[0]} {row[1]} {row[3]} {page_line(row[2])}" for row in rows])

    def ranks(self, album, day):
        word, some = ranks(album.book(), day)
        return " ".join((word, *(part[0] if word == "ring" else part for part in some)))

    def wanted(self, album, day, name, far):
        rows = wanted(album.book(), album.terms(), day, name, far)
        return listed([f"{house} {sort} {days_of(days)}" for house, sort, days in rows])

    def plan(self, album, day, name, most, far):
        outs = plan(album.book(), album.terms(), day, name, most, far)[0]
        return listed([page_line(page) for later, pages in outs for page in pages])

    def worth(self, album, day, name, most, far, house):
        told = home_worth(album.book(), album.terms(), day, name, most, far, house)
        return " ".join({None: "-"}.get(number, str(number)) for number in told)


def draw_row(rng, lines, names=("one", "other")):
    """A drawn row: a deed or a question."""
    album, day, far, most = rng.choice(names), rng.randrange(45), rng.randint(1, 28), rng.randint(1, 4)
    a, b = rng.choice(("a", "ab", "abc", "ash", "b")), rng.choice(("a", "ab", "abc", "ash", "b"))
    deeds = [f"tell {album} {rng.choice(lines)}"] * 6 + [f"strike {album} {rng.choice(lines)}", f"back {album}",
                                                         f"take {album} {rng.choice(names)}"]
    questions = [f"deeds {album}", f"book {album}", f"elder {album} {rng.randrange(12)}", f"dues {album} {day}",
                 f"owes {album} {day} {a} {b}", f"rude {album} {day}", f"ranks {album} {day}",
                 f"wanted {album} {day} {a} {far}", f"plan {album} {day} {a} {most} {far}",
                 f"worth {album} {day} {a} {most} {far} {b}"]
    return rng.choice(rng.choice((deeds, deeds, questions)))


QUESTIONS = ("deeds", "book", "elder", "dues", "owes", "rude", "ranks", "wanted", "plan", "worth")


class DrawnTest(unittest.TestCase):
    def test_against_albums_and_the_functions(self):
        rng = random.Random(352)
        met = {}
        for _ in range(25):
            lines = [page_line(page) for page in draw_walk_book(rng, many=50)]
            desk, second = Desk(), Second()
            terms = [" ".join(map(str, draw_terms(rng))) for _ in range(2)]
            rows = [f"album one {terms[0]}", f"album other {terms[1]}"]
            rows += [f"tell {rng.choice(('one', 'other'))} {line}" for line in lines[:20]]
            for row in rows + [draw_row(rng, lines) for _ in range(120)]:
                told = outcome(desk.say, row)
                self.assertEqual(told, outcome(second.say, row), row)
                key = (row.split(" ")[0], told[0] in "'\"")
                met[key] = met.get(key, 0) + 1
        for word in REST:
            self.assertIn((word, True), met)
        for word in ("strike", "elder", "owes", "wanted", "plan", "worth"):
            self.assertIn((word, False), met)

    def test_what_is_refused_and_each_question_turns_nothing(self):
        rng = random.Random(353)
        turned = {True: 0, False: 0}
        for _ in range(12):
            lines = [page_line(page) for page in draw_walk_book(rng, many=30)]
            desk = Desk()
            desk.say("album one 5 3")
            desk.say("album other 9 2")
            for _ in range(60):
                row = draw_row(rng, lines)
                row = reworded(rng, row) if rng.random() < 0.3 else row
                before = state(desk)
                told = outcome(desk.say, row)
                if told[0] != "'" or row.split(" ")[0] in QUESTIONS or told in ("'there'", "'0'"):
                    self.assertEqual(state(desk), before, row)
                turned[state(desk) != before] += 1
        self.assertGreater(min(turned.values()), 100)

    def test_two_desks_turn_nothing_of_one_another(self):
        rng = random.Random(354)
        lines = [page_line(page) for page in draw_walk_book(rng, many=40)]
        rows = [["album one 5 3", "album other 9 2"], ["album one 8 4", "album other 1 1"]]
        for some in rows:
            some += [draw_row(rng, lines) for _ in range(150)]
        alone = []
        for some in rows:
            desk = Desk()
            alone.append([outcome(desk.say, row) for row in some])
        desks = (Desk(), Desk())
        both = [[outcome(desk.say, some[k]) for desk, some in zip(desks, rows)] for k in range(len(rows[0]))]
        self.assertEqual(both, [list(pair) for pair in zip(*alone)])
        self.assertNotEqual(state(desks[0]), state(desks[1]))

    def test_the_book_is_that_of_what_was_told_however_it_came(self):
        rng = random.Random(355)
        for _ in range(10):
            lines = [page_line(page) for page in draw_walk_book(rng, many=30)]
            some = rng.sample(lines, len(lines))
            desk = Desk()
            desk.say("album one 5 3")
            desk.say("album other 5 3")
            for line in some + some[:5]:
                desk.say(f"tell {rng.choice(('one', 'other'))} {line}")
            desk.say("take one other")
            desk.say("take other one")
            book = in_order([read_page(line) for line in lines])
            self.assertEqual(desk.say("book one"), listed([page_line(page) for page in book]))
            for day in range(0, 40, 7):
                self.assertEqual(desk.say(f"dues one {day}"), desk.say(f"dues other {day}"))


if __name__ == "__main__":
    unittest.main()
