"""Point 66, and of point 2: names, and days of WANTS, put for others that rise alike, what is told is so put."""

import random
import unittest

from cardsback.adding import between, places
from cardsback.answering import answered, would
from cardsback.athome import at_home, home_days
from cardsback.bookranks import first_of, ranks
from cardsback.casechecker import lets_cases
from cardsback.crowds import lets_crowd
from cardsback.errors import CardsError
from cardsback.fewest import day_sets, fewest
from cardsback.heirs import heir, parted_from
from cardsback.letting import let_go
from cardsback.lettingchecker import lets_letting
from cardsback.mourning import mourning_days
from cardsback.owing import matters, owes, sums
from cardsback.pages import in_order
from cardsback.plans import home_worth
from cardsback.ranking import ranked
from cardsback.ringchecker import lets_order
from cardsback.rounds import lets_round
from cardsback.rows import in_a_row, row_round
from cardsback.rudechecker import lets_rude
from cardsback.rudes import rude, rude_papers
from cardsback.sayings import sayings
from cardsback.serving import any_round, served
from cardsback.soon import first_rude, soon
from cardsback.standing import came, idle, standing
from cardsback.walking import dues, marks
from cardsback.wanted import wanted
from cardsback.wants import all_days, is_wants, with_day, with_want, without_want
from cardsback.worths import day_worth, place_worth, want_worth
from tests.secondwalk import draw_terms, draw_walk_book
from tests.things import NAMES, changed, drawn_lists
from tests.wantschecks import draw_wants

# None of these is a word that is told, such as a kind of PAGES.
ALIKE = dict(zip(NAMES, ("aa", "ab", "abb", "abcdefgh", "ba", "bb", "c", "ca", "d")))


def put_for(thing, names, days):
    """A thing with names and days put for others, however deep they lie."""
    if isinstance(thing, (tuple, list)):
        return type(thing)([put_for(part, names, days) for part in thing])
    if type(thing) is int:
        return days.get(thing, thing)
    return names.get(thing, thing) if isinstance(thing, str) else thing


def told(function, *args):
    """What is told, or the class of the refusal and its fields."""
    try:
        return ("told", function(*args))
    except CardsError as error:
        return (type(error).__name__,) + tuple(vars(error).values())


# Of what is told as "any" it is asked whether it is told, and how many things it has.


def round_word(wants, most):
    return any_round(wants, most)[0]


def is_served(wants, most, days):
    return served(wants, most, days) is not None


def many_of(function, *args):
    answer = told(function, *args)
    return answer[0] if answer[0] != "told" else str(len(answer[1][0]))


def rank_word(function, *args):
    word, row = function(*args)
    return (word, row) if word == "order" else word


class RenamingTest(unittest.TestCase):
    def check(self, rows, days=None):
        """Of each row (function, what it takes) what is told is so put."""
        for function, *args in rows:
            before = told(function, *args)
            if before[0] in ("NoOrder", "NoCrowd"):
                # The RING, the CROWD is any.
                before = before[:1]
            behind = told(function, *put_for(args, ALIKE, days or {}))[:len(before)]
            self.assertEqual(repr(put_for(before, ALIKE, days or {})), repr(behind), function)

    def test_wants(self):
        rng = random.Random(431)
        for _ in range(150):
            wants = draw_wants(rng) or (("a", (1, 4)),)
            # Days from 100 on, so that no number of goings, no place and no MOST is taken for one.
            wants = tuple((name, tuple(100 + day for day in own)) for name, own in wants)
            there = list(range(100, 130))
            days = dict(zip(there, sorted(rng.sample(range(200, 10 ** 6), len(there)))))
            name, day, most = rng.choice(wants)[0], rng.choice(there), rng.randint(1, 4)
            word, thing = any_round(wants, most)
            cases = told(fewest, wants, most)
            cases = cases[1][1] if cases[0] == "told" else ("apart", (name,))
            self.check([
                (is_wants, wants), (all_days, wants), (with_day, wants, name, day), (without_want, wants, name),
                (with_want, wants, "elm", (day, 130)), (lets_round, wants, most, thing),
                (lets_round, wants, most, changed(rng, thing)), (lets_crowd, wants, most, thing),
                (lets_crowd, wants, most, tuple(name for name, own in wants)), (lets_cases, wants, most, 0, cases),
                (lets_cases, wants, most, 1, cases), (lets_cases, wants, most, 2, changed(rng, cases)),
                (round_word, wants, most), (is_served, wants, most, all_days(wants)[1:]),
                (many_of, fewest, wants, most), (day_sets, wants, most, 2), (day_worth, wants, most, name, (day, 101)),
                (want_worth, wants, most), (place_worth, wants)], {**days, 130: 10 ** 6})

    def test_wants_in_a_row_by_names(self):
        rng = random.Random(432)
        for _ in range(100):
            wants = draw_wants(rng, share=0.8)
            self.check([(in_a_row, wants), (many_of, row_round, wants)])

    def test_sayings_by_names(self):
        rng = random.Random(433)
        for names, some in drawn_lists(434, 150, most_sayings=12):
            if not names:
                continue
            a, b = rng.choice(names), rng.choice(names)
            order = tuple(rng.sample(names, len(names)))
            self.check([(rank_word, ranked, names, some), (many_of, let_go, names, some),
                        (lets_order, names, some, order), (places, names, some, a),
                        (lets_letting, names, some, 1, ("one", some[:2], ()))])
            if a != b:
                self.check([(between, names, some, a, b)])

    def test_books_by_names(self):
        rng = random.Random(435)
        for _ in range(60):
            book = draw_walk_book(rng, names=tuple(NAMES[k] for k in (0, 1, 3, 6, 7, 8)))
            terms, day, far = draw_terms(rng), rng.randrange(35), rng.randint(1, 28)
            a, b = rng.sample(("a", "ab", "ash", "elm"), 2)
            paper = rng.choice(rude_papers(book, terms, 60) + [(a, b, ("card", 1, b, a), ())])
            self.assertEqual(put_for(book, ALIKE, {}), in_order(put_for(book, ALIKE, {})))
            rows = [
                (standing, day), (came, day), (idle, day), (heir, day, a), (parted_from, day, a), (at_home, day, a),
                (home_days, day, a, far), (mourning_days, day, a, far), (sayings, day),
                (first_of, day, tuple(sorted((a, b)))), (dues, terms, day), (marks, terms, day),
                (owes, terms, day, a, b), (matters, terms, day), (sums, terms, day), (answered, terms, day),
                (would, terms, day, ("visit", day, a, b)), (rude, terms, day), (lets_rude, terms, day, paper),
                (soon, terms, day, a, far), (first_rude, terms, day), (wanted, terms, day, a, far),
                (home_worth, terms, day, a, 3, far, b)]
            self.check([(function, book, *args) for function, *args in rows] + [(rank_word, ranks, book, day)])


if __name__ == "__main__":
    unittest.main()
