import random
import unittest

from cardsback.albums import Album
from cardsback.books import both_books, is_book
from cardsback.errors import NoBack, NoPage, TooMany
from cardsback.pages import in_order
from cardsback.standing import standing
from cardsback.walking import dues, marks
from tests.secondwalk import Second, draw_walk_book
from tests.things import outcome, refusal

HOUSE = ("house", 1, "ash", (0,))
ELM = ("house", 1, "elm", ())
CARD = ("card", 3, "ash", "elm")
VISIT = ("visit", 8, "elm", "ash")
MANY = [("ahead", day, "ash", "elm") for day in range(200)]


def album_of(pages, terms=(5, 3)):
    album = Album(terms)
    for page in pages:
        album.tell(page)
    return album


def all_told(album):
    """All that an ALBUM tells, as a text in which kinds show."""
    views = [album.elder(k) for k in range(album.deeds() + 1)]
    return repr((album.book(), album.terms(), album.deeds(), views))


def taken_back(album):
    """All deeds, the last one first, taken back."""
    told = []
    while album.deeds():
        told.append(album.back())
    return told


class NewTest(unittest.TestCase):
    def test_new(self):
        album = Album((5, 60))
        self.assertEqual(all_told(album), "((), (5, 60), 0, [()])")

    def test_terms_stay(self):
        album = album_of([HOUSE], (1, 60))
        self.assertEqual(repr(album.terms()), "(1, 60)")
        album.back()
        self.assertEqual(repr(album.terms()), "(1, 60)")


class TellTest(unittest.TestCase):
    def test_new_ones_in_any_order(self):
        album = Album((5, 3))
        for page in (VISIT, HOUSE, CARD, ELM):
            self.assertIs(album.tell(page), True)
        self.assertEqual(album.book(), (HOUSE, ELM, CARD, VISIT))
        self.assertEqual(album.deeds(), 4)
        self.assertEqual([album.elder(k) for k in range(5)],
                         [(), (VISIT,), (HOUSE, VISIT), (HOUSE, CARD, VISIT), (HOUSE, ELM, CARD, VISIT)])

    def test_one_that_is_there(self):
        album = album_of([HOUSE, CARD])
        self.assertIs(album.tell(HOUSE), False)
        self.assertIs(album.tell(("card", 3, "ash", "elm")), False)
        self.assertEqual((album.deeds(), album.book()), (2, (HOUSE, CARD)))
        self.assertEqual(album.back(), ("tell", CARD))

    def test_eighty_and_one_more(self):
        album = album_of(MANY[:80])
        self.assertEqual((len(album.book()), album.deeds()), (80, 80))
        kept = all_told(album)
        error = refusal(album.tell, MANY[80])
        self.assertIs(type(error), TooMany)
        self.assertEqual(error.word, "pages")
        self.assertEqual(all_told(album), kept)
        self.assertIs(album.tell(MANY[7]), False)
        album.strike(MANY[7])
        self.assertIs(album.tell(MANY[80]), True)
        self.assertEqual(len(album.book()), 80)
        self.assertIs(type(refusal(album.tell, MANY[7])), TooMany)


class StrikeTest(unittest.TestCase):
    def test_struck(self):
        album = album_of([HOUSE, CARD, VISIT])
        self.assertIsNone(album.strike(CARD))
        self.assertEqual((album.book(), album.deeds()), ((HOUSE, VISIT), 4))
        self.assertIs(album.tell(CARD), True)
        self.assertEqual((album.book(), album.deeds()), ((HOUSE, CARD, VISIT), 5))

    def test_one_that_is_not_there(self):
        album = album_of([HOUSE, CARD])
        album.strike(CARD)
        kept = all_told(album)
        for page in (CARD, VISIT):
            error = refusal(album.strike, page)
            self.assertIs(type(error), NoPage)
            self.assertIs(error.page, page)
        self.assertEqual(all_told(album), kept)
        self.assertIs(type(refusal(Album((1, 1)).strike, CARD)), NoPage)


class TakeTest(unittest.TestCase):
    def test_what_is_new(self):
        one, other = album_of([HOUSE, CARD]), album_of([VISIT, ELM, CARD], (9, 9))
        kept = all_told(other)
        self.assertEqual(repr(one.take_in(other)), "2")
        self.assertEqual((one.book(), one.deeds(), one.terms()), ((HOUSE, ELM, CARD, VISIT), 3, (5, 3)))
        self.assertEqual(all_told(other), kept)
        self.assertEqual(one.elder(2), (HOUSE, CARD))
        self.assertEqual(one.back(), ("take", (ELM, VISIT)))
        self.assertEqual(one.book(), (HOUSE, CARD))

    def test_nothing_new_is_no_deed(self):
        one, other = album_of([HOUSE, CARD]), album_of([CARD])
        for taken in (other, Album((1, 1)), one):
            self.assertEqual(repr(one.take_in(taken)), "0")
        self.assertEqual((one.deeds(), one.book()), (2, (HOUSE, CARD)))
        self.assertEqual(one.back(), ("tell", CARD))

    def test_itself(self):
        album = Album((1, 1))
        self.assertEqual(repr(album.take_in(album)), "0")
        self.assertEqual(album.deeds(), 0)
        self.assertIs(type(refusal(album.back)), NoBack)

    def test_the_book_alone_is_taken_in_not_what_was_struck(self):
        other = album_of([HOUSE, CARD])
        other.strike(HOUSE)
        one = Album((5, 3))
        self.assertEqual(one.take_in(other), 1)
        self.assertEqual(one.book(), (CARD,))

    def test_eighty_and_one_more(self):
        one, other = album_of(MANY[:50]), album_of(MANY[30:80])
        self.assertEqual(one.take_in(other), 30)
        self.assertEqual(len(one.book()), 80)
        kept = all_told(one)
        more = album_of(MANY[79:81])
        for taken in (more, album_of(MANY[100:180])):
            error = refusal(one.take_in, taken)
            self.assertIs(type(error), TooMany)
            self.assertEqual(error.word, "pages")
            self.assertEqual(all_told(one), kept)
        self.assertEqual(len(more.book()), 2)
        self.assertEqual(one.take_in(one), 0)
        self.assertEqual(one.take_in(other), 0)

    def test_each_is_its_own(self):
        one, other = album_of([HOUSE]), album_of([CARD, ELM])
        one.take_in(other)
        kept, theirs = all_told(one), all_told(other)
        other.strike(CARD)
        other.back()
        other.back()
        other.tell(VISIT)
        self.assertEqual(all_told(one), kept)
        other.back()
        other.tell(ELM)
        self.assertEqual(all_told(other), theirs)
        one.strike(ELM)
        one.back()
        one.back()
        one.strike(HOUSE)
        self.assertEqual(all_told(other), theirs)

    def test_what_is_taken_in_and_taken_back(self):
        one, other = album_of([HOUSE, CARD]), album_of([ELM, VISIT])
        kept = all_told(one)
        one.take_in(other)
        one.strike(VISIT)
        self.assertEqual(one.back(), ("strike", VISIT))
        self.assertEqual(one.back(), ("take", (ELM, VISIT)))
        self.assertEqual(all_told(one), kept)
        self.assertEqual(one.take_in(other), 2)


class BackTest(unittest.TestCase):
    def test_each_deed(self):
        album, other = album_of([HOUSE, CARD]), album_of([VISIT])
        album.strike(HOUSE)
        album.take_in(other)
        self.assertEqual(taken_back(album), [("take", (VISIT,)), ("strike", HOUSE), ("tell", CARD), ("tell", HOUSE)])
        self.assertEqual(album.book(), ())

    def test_none_left(self):
        album = Album((1, 1))
        self.assertIs(type(refusal(album.back)), NoBack)
        album.tell(HOUSE)
        album.back()
        kept = all_told(album)
        self.assertIs(type(refusal(album.back)), NoBack)
        self.assertEqual(all_told(album), kept)

    def test_as_if_it_had_never_been(self):
        album, other = album_of([HOUSE, ELM]), album_of([CARD, VISIT])
        for deed in (lambda: album.tell(CARD), lambda: album.strike(HOUSE), lambda: album.take_in(other)):
            kept = all_told(album)
            deed()
            self.assertNotEqual(all_told(album), kept)
            album.back()
            self.assertEqual(all_told(album), kept)
        self.assertIs(album.tell(CARD), True)


class ElderTest(unittest.TestCase):
    def test_every_k(self):
        album = album_of([CARD, HOUSE])
        album.strike(CARD)
        album.take_in(album_of([ELM, CARD]))
        right = [(), (CARD,), (HOUSE, CARD), (HOUSE,), (HOUSE, ELM, CARD)]
        self.assertEqual([album.elder(k) for k in range(5)], right)
        self.assertEqual(album.elder(album.deeds()), album.book())
        album.back()
        self.assertEqual([album.elder(k) for k in range(4)], right[:4])

    def test_below_and_above(self):
        album = album_of([CARD, HOUSE])
        for k in (-1, -2, -3, 3, 4, 10 ** 60, -(10 ** 60)):
            error = refusal(album.elder, k)
            self.assertIs(type(error), TooMany)
            self.assertEqual(error.word, "deeds")
        self.assertIs(type(refusal(Album((1, 1)).elder, 1)), TooMany)
        self.assertEqual(Album((1, 1)).elder(0), ())


class Plain:
    """An ALBUM by lists: all deeds kept, the BOOK made anew of them each time."""

    def __init__(self):
        self.past = []

    def pages(self, many=None):
        there = []
        for word, some in self.past[:many]:
            there = [page for page in there if page not in some] if word == "strike" else there + some
        return there

    def told(self):
        return in_order(self.pages())


class DrawnTest(unittest.TestCase):
    def do(self, rng, albums, plains, pages):
        """One drawn deed of one of the ALBUMS, and the same of its like."""
        k, j = rng.randrange(2), rng.randrange(2)
        album, plain = albums[k], plains[k]
        there = plain.pages()
        deed = rng.choice(("tell", "tell", "tell", "strike", "take", "back"))
        page = rng.choice(there) if there and rng.random() < 0.5 else rng.choice(pages)
        if deed == "tell":
            self.assertIs(album.tell(page), page not in there)
            if page not in there:
                plain.past.append((deed, [page]))
        elif deed == "strike" and page in there:
            self.assertIsNone(album.strike(page))
            plain.past.append((deed, [page]))
        elif deed == "strike":
            self.assertIs(type(refusal(album.strike, page)), NoPage)
        elif deed == "take":
            fresh = [page for page in plains[j].pages() if page not in there]
            self.assertEqual(album.take_in(albums[j]), len(fresh))
            if fresh:
                plain.past.append((deed, fresh))
        elif plain.past:
            word, some = plain.past.pop()
            self.assertEqual(repr(album.back()), repr((word, in_order(some) if word == "take" else some[0])))
        else:
            self.assertIs(type(refusal(album.back)), NoBack)

    def check(self, album, plain):
        self.assertEqual(repr(album.book()), repr(plain.told()))
        self.assertTrue(is_book(album.book()))
        self.assertEqual(album.deeds(), len(plain.past))
        for k in range(album.deeds() + 1):
            self.assertEqual(repr(album.elder(k)), repr(in_order(plain.pages(k))))

    def test_against_lists(self):
        rng = random.Random(91)
        for _ in range(40):
            pages = draw_walk_book(rng)
            albums, plains = (Album((3, 4)), Album((5, 6))), (Plain(), Plain())
            for _ in range(40):
                self.do(rng, albums, plains, pages)
            for album, plain in zip(albums, plains):
                self.check(album, plain)
            self.check_one_book(albums)

    def check_one_book(self, albums):
        one, other = albums
        book = both_books(one.book(), other.book())
        one.take_in(other)
        other.take_in(one)
        self.assertEqual(repr(one.book()), repr(book))
        self.assertEqual(repr(other.book()), repr(book))
        for day in (0, 10, 29, 40):
            right = Second(book, (3, 4), day)
            for album in albums:
                self.assertEqual(repr(dues(album.book(), (3, 4), day)), repr(right.dues()))
                self.assertEqual(repr(marks(album.book(), (3, 4), day)), repr(right.marked))
                self.assertEqual(standing(album.book(), day), sorted(right.homes.items()))

    def test_however_pages_came(self):
        rng = random.Random(92)
        for _ in range(30):
            book = draw_walk_book(rng)
            late = rng.sample(book, len(book))
            album = Album((5, 3))
            for page in late:
                album.tell(page)
                if rng.random() < 0.3:
                    album.tell(rng.choice(late[:1] + late))
                    album.back()
                if rng.random() < 0.2:
                    album.strike(album.book()[0])
                    album.back()
            for page in late:
                album.tell(page)
            self.assertEqual(repr(album.book()), repr(book))
            for day in range(0, 40, 3):
                self.assertEqual(repr(dues(album.book(), album.terms(), day)), repr(Second(book, (5, 3), day).dues()))

    def test_refusals_told_alike_again(self):
        album = album_of([HOUSE])
        for _ in range(2):
            self.assertEqual(outcome(album.strike, CARD), "NoPage {'page': ('card', 3, 'ash', 'elm')}")
            self.assertEqual(outcome(album.elder, 2), "TooMany {'word': 'deeds'}")
        self.assertEqual(outcome(Album((1, 1)).back), "NoBack {}")


if __name__ == "__main__":
    unittest.main()
