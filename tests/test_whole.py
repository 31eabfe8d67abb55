"""What holds over all modules: points 2, 3, 4, 15, 22, 28 and 36."""

import random
import unittest

from cardsback.albums import Album
from cardsback.answering import answered, would
from cardsback.athome import at_home, home_days
from cardsback.books import up_to, with_page
from cardsback.casechecker import lets_cases
from cardsback.crowds import lets_crowd
from cardsback.desk import Desk
from cardsback.fewest import day_sets, fewest
from cardsback.heirs import heir, parted_from
from cardsback.lasts import last, left
from cardsback.letting import let_go
from cardsback.mourning import mourning_days, mourns
from cardsback.owing import matters, owes, sums
from cardsback.pages import in_order
from cardsback.plans import followed, home_worth, plan
from cardsback.readings import read_book, read_cases, read_page
from cardsback.rounds import days_of, lets_round
from cardsback.rows import in_a_row, row_round
from cardsback.rudechecker import lets_rude
from cardsback.rudes import rude, rude_papers
from cardsback.serving import any_round, served
from cardsback.soon import first_rude, soon
from cardsback.standing import came, standing
from cardsback.texts import book_lines, cases_line, due_line, page_line
from cardsback.walking import dues, marks
from cardsback.wanted import wanted
from cardsback.wants import all_days, is_wants, with_day, with_want, without_want
from cardsback.worths import day_worth, place_worth, want_worth
from tests.secondwalk import GOING, Second, draw_terms, draw_walk_book, drawn_walks
from tests.test_texts import draw_node
from tests.things import NAMES, draw_sayings, outcome, refusal
from tests.wantschecks import draw_wants

GOINGS = ("card", "visit")


def keys(some):
    return [due[:4] for due in some]


class LateTest(unittest.TestCase):
    def draw_deed(self, rng, albums, pages, kept):
        """Do a drawn deed; kept are the PAGES that each ALBUM has to have, behind each of its deeds."""
        k = rng.randrange(2)
        now = set(kept[k][-1])
        deed, page = rng.choice(("tell", "tell", "tell", "tell", "strike", "take", "back")), rng.choice(pages)
        if deed == "back" and len(kept[k]) > 1:
            albums[k].back()
            kept[k].pop()
            return
        if deed == "tell":
            albums[k].tell(page)
            now.add(page)
        elif deed == "take":
            albums[k].take_in(albums[1 - k])
            now |= kept[1 - k][-1]
        elif page in now:
            albums[k].strike(page)
            now.remove(page)
        if now != kept[k][-1]:
            kept[k].append(now)

    def check_days(self, album, pages):
        """What is told of each day is that of walking these PAGES by days."""
        book, terms = album.book(), album.terms()
        self.assertEqual(book, in_order(list(pages)))
        for day in range(0, 40, 3):
            second = Second(in_order(list(pages)), terms, day)
            self.assertEqual(dues(book, terms, day), second.dues())
            self.assertEqual(marks(book, terms, day), second.marked)
            self.assertEqual(sums(book, terms, day), second.sums())
            self.assertEqual(answered(book, terms, day), second.paid)
            self.assertEqual(standing(book, day), sorted(second.homes.items()))
            self.assertEqual({name: heir(book, day, name) for name in came(book, day)}, second.heirs)
            self.assertEqual({name: parted_from(book, day, name) for name in came(book, day)}, second.stocks)

    def test_behind_any_deeds_each_day_is_that_of_walking_the_pages(self):
        rng = random.Random(206)
        for _ in range(15):
            pages, albums = draw_walk_book(rng), [Album(draw_terms(rng)) for _ in range(2)]
            kept = [[set()], [set()]]
            for _ in range(rng.randint(60, 150)):
                self.draw_deed(rng, albums, pages, kept)
            for album, some in zip(albums, kept):
                self.assertEqual(album.deeds(), len(some) - 1)
                self.check_days(album, some[-1])

    def test_two_that_took_in_one_another_tell_the_same_of_each_day(self):
        rng = random.Random(207)
        for _ in range(10):
            pages, terms = draw_walk_book(rng, many=70), draw_terms(rng)
            albums = [Album(terms), Album(terms)]
            for page in rng.sample(pages, len(pages)):
                rng.choice(albums).tell(page)
            albums[0].take_in(albums[1])
            albums[1].take_in(albums[0])
            for album in albums:
                self.check_days(album, pages)


class GoingsTest(unittest.TestCase):
    def test_each_going_answers_or_makes_one_never_both(self):
        met = {"answer": 0, "due": 0, "idle": 0, "done": 0}
        for book, terms, day in drawn_walks(201, 80):
            told = dict(marks(book, terms, book[-1][1]))
            paid = dict(answered(book, terms, book[-1][1]))
            for k, page in enumerate(book):
                before, after = (set(keys(dues(book[:j], terms, page[1]))) for j in (k, k + 1))
                mark = told[page]
                met[mark[0]] += 1
                if page[0] not in GOINGS:
                    self.assertIn(mark, (("done",), ("idle",)))
                elif mark == ("idle",):
                    self.assertEqual(before, after)
                elif mark == ("due",):
                    self.assertEqual((len(after - before), before - after), (1, set()))
                    self.assertEqual({key[3] for key in after - before}, {page})
                else:
                    self.assertEqual((mark[0], len(before - after), after - before), ("answer", mark[1], set()))
                    self.assertGreaterEqual(mark[1], 1)
                    self.assertEqual({(key[0], key[1], key[3]) for key in before - after}, set(paid.pop(page)))
            self.assertEqual(paid, {})
        self.assertGreater(min(met.values()), 50, met)


class RudeTest(unittest.TestCase):
    def test_nobody_is_told_rude_but_with_the_going_and_the_days_that_fell(self):
        told = 0
        for book, terms, day in drawn_walks(208, 120, kinds=GOING + ("mourn",) * 4 + ("home", "ahead")):
            for ower, owed, page, falls in rude_papers(book, terms, day):
                self.assertEqual(page[2:], (owed, ower))
                fell = [later for later in range(page[1] + 1, falls[-1] + 1)
                        if not mourns(book, later, ower) and not mourns(book, later, owed)]
                self.assertEqual(list(falls), fell)
                self.assertIs(lets_rude(book, terms, day, (ower, owed, page, falls)), True)
                self.assertEqual(refusal(lets_rude, book, terms, falls[-1] - 1, (ower, owed, page, falls[:-1])).word,
                                 "few")
                told += 1
        self.assertGreater(told, 100)


class LaterTest(unittest.TestCase):
    def check_no_sooner(self, former, later):
        """Of two pairs (BOOK, TERMS): the same DUES stand BEHIND each day, each with a LEFT that is no less."""
        rude = 0
        for day in range(0, 60, 3):
            old, new = dues(*former, day), dues(*later, day)
            self.assertEqual(keys(old), keys(new))
            for one, other in zip(old, new):
                self.assertGreaterEqual(left(later[1], other), left(former[1], one))
                if left(later[1], other) == 0:
                    rude += 1
                    self.assertEqual(left(former[1], one), 0)
                    self.assertLessEqual(one[4][-1], other[4][-1])
        return rude

    def test_longer_terms(self):
        rng = random.Random(202)
        rude = 0
        for _ in range(60):
            book, terms = draw_walk_book(rng), draw_terms(rng)
            longer = tuple(term + rng.randrange(4) for term in terms)
            rude += self.check_no_sooner((book, terms), (book, longer))
        self.assertGreater(rude, 100)

    def test_more_mourning(self):
        rng = random.Random(203)
        rude = changed = 0
        for _ in range(200):
            book, terms = draw_walk_book(rng, many=40), draw_terms(rng)
            name, day, many = rng.choice(NAMES[:6]), rng.randrange(35), rng.randint(1, 8)
            busy = [page[1] for page in book if page[0] in GOINGS and name in page[2:4]]
            if any(day <= one < day + many for one in busy):
                continue
            more = with_page(book, ("mourn", day, name, many))
            rude += self.check_no_sooner((book, terms), (more, terms))
            changed += dues(book, terms, 44) != dues(more, terms, 44)
        self.assertGreater(rude, 100)
        self.assertGreater(changed, 5)


class PayingTest(unittest.TestCase):
    def test_whoever_pays_on_the_last_day_or_ahead_of_it_is_not_rude(self):
        paid = 0
        for book, terms, day in drawn_walks(204, 150):
            for due in dues(book, terms, day):
                if left(terms, due) == 0:
                    continue
                end = last(book, terms, day, due)
                for pays in {day + 1, (day + 1 + end) // 2, end}:
                    for kind in GOINGS:
                        going = (kind, pays, due[0], due[1])
                        paid += self.check_paid(in_order(up_to(book, day) + (going,)), terms, day, due, going, end)
        self.assertGreater(paid, 300)

    def check_paid(self, book, terms, day, due, going, end):
        """Whether the GOING answers the DUE; then it is RUDE behind none of the days."""
        if due[:4] in keys(dues(book, terms, going[1])):
            return False
        for later in {day, day + 1, going[1] - 1, going[1], end}:
            rude = [one for one in dues(book, terms, later) if one[:4] == due[:4] and left(terms, one) == 0]
            self.assertEqual(rude, [])
        return True


class AskedAgainTest(unittest.TestCase):
    def questions(self, rng):
        """Drawn questions of all kinds: functions with what is handed in."""
        book, terms, day = draw_walk_book(rng), draw_terms(rng), rng.randrange(40)
        name, far = rng.choice(NAMES[:6]), rng.randint(1, 28)
        due = rng.choice(dues(book, terms, day) + [("a", "b", "card", ("card", 0, "a", "b"), ())])
        desk = Desk()
        desk.say("album one 5 3")
        desk.say(f"tell one {page_line(book[0])}")
        going = ("visit", day + 1, "zz", name)
        paper = rng.choice(rude_papers(book, terms, 60) + [(name, "ash", going, (1, 2))])
        cases = cases_line(draw_node(rng, 2))
        return [(heir, (book, day, name)), (parted_from, (book, day, name)), (at_home, (book, day, name)),
                (home_days, (book, day, name, far)), (answered, (book, terms, day)), (would, (book, terms, day, going)),
                (lets_rude, (book, terms, day, paper)), (read_page, (page_line(due[3]),)), (read_cases, (cases,)),
                (read_cases, (cases[1:],)), (read_book, (book_lines(book),)), (read_book, (["house 1 ash"],)),
                (soon, (book, terms, day, name, far)), (first_rude, (book, terms, day)),
                (let_go, (NAMES[:5], draw_sayings(rng, NAMES[:5], rng.randint(0, 12)))),
                (desk.say, ("book one",)), (desk.say, (f"dues one {day}",)), (desk.say, ("books one",)),
                (mourns, (book, day, name)), (mourning_days, (book, day, name, far)), (dues, (book, terms, day)),
                (marks, (book, terms, day)), (left, (terms, due)), (last, (book, terms, day, due)),
                (wanted, (book, terms, day, name, far)), (page_line, (due[3],)), (book_lines, (book,)),
                (due_line, (due,)), (owes, (book, terms, day, name, rng.choice(NAMES[:6]))),
                (matters, (book, terms, day)), (sums, (book, terms, day)), (rude, (book, terms, day)),
                (rude_papers, (book, terms, day)), (plan, (book, terms, day, name, rng.randint(1, 4), far)),
                (followed, (book, day, ((day + 1, (("card", day + 1, "a", "b"),)),))),
                (home_worth, (book, terms, day, name, rng.randint(1, 4), far, rng.choice(NAMES[:6])))]

    def questions_of_wants(self, rng):
        """Drawn questions about WANTS."""
        wants, most, day = draw_wants(rng) or (("a", (1, 4)),), rng.randint(1, 4), rng.randrange(24)
        name = rng.choice(wants)[0]
        word, told = any_round(wants, most)
        return [(lets_round, (wants, most, told)), (lets_crowd, (wants, most, told)), (in_a_row, (wants,)),
                (days_of, (told if word == "round" else (),)), (row_round, (wants,)), (want_worth, (wants, most)),
                (day_worth, (wants, most, name, (day, 0))), (place_worth, (wants,)),
                (lets_cases, (wants, most, rng.randint(0, 4), ("apart", (name,)))),
                (is_wants, (wants,)), (all_days, (wants,)), (with_day, (wants, name, day)),
                (with_want, (wants, name, (day, day + 2))), (without_want, (wants, name)),
                (served, (wants, most, all_days(wants)[:5])), (any_round, (wants, most)), (fewest, (wants, most)),
                (day_sets, (wants, most, rng.randint(0, 4)))]

    def test_the_same_is_told_again_and_nothing_is_changed(self):
        rng = random.Random(205)
        for _ in range(30):
            asked = self.questions(rng) + self.questions(rng) + self.questions_of_wants(rng)
            kept = [repr(args) for function, args in asked]
            told = [outcome(function, *args) for function, args in asked]
            for k in rng.sample(range(len(asked)), len(asked)):
                function, args = asked[k]
                self.assertEqual(outcome(function, *args), told[k], function)
            self.assertEqual([repr(args) for function, args in asked], kept)


if __name__ == "__main__":
    unittest.main()
