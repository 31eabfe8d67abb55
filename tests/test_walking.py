import random
import unittest

from cardsback.books import up_to
from cardsback.pages import in_order
from cardsback.walking import dues, marks
from tests.secondwalk import ALL, GOING, Second, book_of, draw_terms, draw_walk_book, drawn_walks

TERMS = (5, 3)


def due_parts(book, day, terms=TERMS):
    """The DUES without their falls."""
    return [due[:4] for due in dues(book, terms, day)]


def falls(book, day, terms=TERMS):
    return [due[4] for due in dues(book, terms, day)]


def mark_of(book, page, terms=TERMS):
    return dict(marks(book, terms, page[1]))[page]


class GoingTest(unittest.TestCase):
    def test_no_pages(self):
        for day in (0, 9999):
            self.assertEqual(dues((), TERMS, day), [])
            self.assertEqual(marks((), TERMS, day), [])

    def test_ahead_of_the_first_page(self):
        book = tuple((page[0], page[1] + 5) + page[2:] for page in book_of(("visit", 1, "ash", "elm")))
        self.assertEqual(dues(book, TERMS, 4), [])
        self.assertEqual(marks(book, TERMS, 4), [])
        self.assertEqual(len(marks(book, TERMS, 5)), 3)

    def test_a_met_visit(self):
        visit = ("visit", 2, "ash", "elm")
        book = book_of(visit)
        self.assertEqual(dues(book, TERMS, 1), [])
        self.assertEqual(dues(book, TERMS, 2), [("elm", "ash", "visit", visit, ())])
        self.assertEqual(mark_of(book, visit), ("due",))

    def test_a_card(self):
        card = ("card", 2, "ash", "elm")
        self.assertEqual(dues(book_of(card), TERMS, 2), [("elm", "ash", "card", card, ())])

    def test_a_visit_where_nobody_is_at_home(self):
        visit = ("visit", 9, "ash", "elm")
        for home, sort in (((2,), "visit"), ((0, 1, 3, 4, 5, 6), "card"), ((), "card"), ((1, 2), "visit")):
            book = in_order([("house", 0, "ash", ()), ("house", 0, "elm", home), visit])
            self.assertEqual(due_parts(book, 9), [("elm", "ash", sort, visit)])

    def test_a_visit_while_one_of_both_mourns(self):
        visit = ("visit", 9, "ash", "elm")
        for name, day, many, sort in (("ash", 8, 2, "card"), ("ash", 8, 1, "visit"), ("ash", 9, 1, "card"),
                                      ("elm", 8, 2, "card"), ("elm", 8, 1, "visit"), ("elm", 9, 1, "card"),
                                      ("fern", 8, 9, "visit"), ("ash", 1, 8, "visit"), ("ash", 1, 9, "card")):
            book = book_of(("mourn", day, name, many), visit)
            self.assertEqual(due_parts(book, 9), [("elm", "ash", sort, visit)], (name, day, many))

    def test_a_home_told_on_the_day_counts(self):
        visit = ("visit", 9, "ash", "elm")
        self.assertEqual(due_parts(book_of(("home", 9, "elm", (3,)), visit), 9), [("elm", "ash", "card", visit)])
        book = in_order([("house", 0, "ash", ()), ("house", 0, "elm", ()), ("home", 9, "elm", (2,)), visit])
        self.assertEqual(due_parts(book, 9), [("elm", "ash", "visit", visit)])
        later = book_of(("home", 10, "elm", ()), visit)
        self.assertEqual(due_parts(later, 20), [("elm", "ash", "visit", visit)])

    def test_houses_that_come_on_the_day(self):
        visit, card = ("visit", 4, "ash", "elm"), ("card", 4, "elm", "ash")
        book = in_order([visit, card, ("part", 4, "ash", "elm", (4,)), ("house", 4, "ash", ())])
        self.assertEqual(marks(book, TERMS, 4), [(book[0], ("done",)), (book[1], ("done",)), (card, ("due",)),
                                                 (visit, ("answer", 1))])

    def test_two_goings_of_one_day_and_houses(self):
        card, visit = ("card", 4, "ash", "elm"), ("visit", 4, "ash", "elm")
        book = book_of(card, visit)
        self.assertEqual(due_parts(book, 4), [("elm", "ash", "card", card), ("elm", "ash", "visit", visit)])
        back = ("visit", 4, "elm", "ash")
        self.assertEqual(due_parts(book_of(card, visit, back), 4), [])
        self.assertEqual(mark_of(book_of(card, visit, back), back), ("answer", 2))


class AnswerTest(unittest.TestCase):
    def test_a_met_visit_answers_all(self):
        made = [("visit", 1, "ash", "elm"), ("card", 2, "ash", "elm"), ("visit", 2, "ash", "elm")]
        back = ("visit", 3, "elm", "ash")
        book = book_of(*made, back)
        self.assertEqual(len(dues(book, TERMS, 2)), 3)
        self.assertEqual(dues(book, TERMS, 3), [])
        self.assertEqual(mark_of(book, back), ("answer", 3))

    def test_a_card_answers_cards_alone(self):
        visit, card = ("visit", 1, "ash", "elm"), ("card", 2, "ash", "elm")
        back = ("card", 3, "elm", "ash")
        book = book_of(visit, card, back)
        self.assertEqual(due_parts(book, 3), [("elm", "ash", "visit", visit)])
        self.assertEqual(mark_of(book, back), ("answer", 1))

    def test_a_visit_that_is_not_met_answers_cards_alone(self):
        visit, card = ("visit", 1, "ash", "elm"), ("card", 2, "ash", "elm")
        back = ("visit", 3, "elm", "ash")
        for page in (("home", 3, "ash", ()), ("mourn", 3, "ash", 1), ("mourn", 3, "elm", 1)):
            book = book_of(visit, card, page, back)
            self.assertEqual(due_parts(book, 3), [("elm", "ash", "visit", visit)], page)
            self.assertEqual(mark_of(book, back), ("answer", 1), page)

    def test_what_answers_nothing_makes_one(self):
        visit, back = ("visit", 1, "ash", "elm"), ("card", 3, "elm", "ash")
        book = book_of(visit, back)
        self.assertEqual(due_parts(book, 3), [("ash", "elm", "card", back), ("elm", "ash", "visit", visit)])
        self.assertEqual(mark_of(book, back), ("due",))

    def test_what_answers_makes_none(self):
        book = book_of(("card", 1, "ash", "elm"), ("visit", 3, "elm", "ash"))
        self.assertEqual(dues(book, TERMS, 3), [])

    def test_rude_ones_are_answered_too(self):
        back = ("visit", 30, "elm", "ash")
        book = book_of(("visit", 1, "ash", "elm"), ("card", 2, "ash", "elm"), back)
        self.assertEqual([len(one) for one in falls(book, 29)], [5, 3])
        self.assertEqual(dues(book, TERMS, 30), [])
        self.assertEqual(mark_of(book, back), ("answer", 2))
        card = ("card", 30, "elm", "ash")
        self.assertEqual(mark_of(book_of(("card", 2, "ash", "elm"), card), card), ("answer", 1))

    def test_only_those_of_a_to_b(self):
        made = [("card", 1, "elm", "ash"), ("card", 1, "fern", "ash"), ("card", 1, "fern", "elm")]
        back = ("visit", 2, "ash", "elm")
        book = book_of(*made, back)
        self.assertEqual(mark_of(book, back), ("answer", 1))
        self.assertEqual(due_parts(book, 2), [("ash", "fern", "card", made[1]), ("elm", "fern", "card", made[2])])

    def test_idle_goings_answer_nothing(self):
        card = ("card", 1, "ash", "elm")
        book = book_of(card, ("join", 2, "fern", "elm"), ("visit", 3, "elm", "ash"), ("visit", 3, "oak", "ash"))
        self.assertEqual(due_parts(book, 3), [("fern", "ash", "card", card)])


class FallsTest(unittest.TestCase):
    def test_not_on_its_own_day_and_not_beyond_the_term(self):
        book = book_of(("visit", 2, "ash", "elm"), ("card", 3, "ash", "fern"))
        self.assertEqual(falls(book, 2), [()])
        self.assertEqual(falls(book, 3), [(3,), ()])
        self.assertEqual(falls(book, 5), [(3, 4, 5), (4, 5)])
        self.assertEqual(falls(book, 7), [(3, 4, 5, 6, 7), (4, 5, 6)])
        self.assertEqual(falls(book, 300), [(3, 4, 5, 6, 7), (4, 5, 6)])

    def test_terms_by_sorts(self):
        book = book_of(("visit", 2, "ash", "elm"), ("card", 2, "ash", "fern"))
        self.assertEqual(falls(book, 90, (1, 60)), [(3,), tuple(range(3, 63))])
        self.assertEqual(falls(book, 90, (60, 1)), [tuple(range(3, 63)), (3,)])

    def test_not_while_either_mourns(self):
        for name in ("ash", "elm"):
            book = book_of(("visit", 2, "ash", "elm"), ("mourn", 4, name, 2))
            self.assertEqual(falls(book, 20), [(3, 6, 7, 8, 9)], name)
        both = book_of(("visit", 2, "ash", "elm"), ("mourn", 4, "ash", 3), ("mourn", 5, "elm", 4))
        self.assertEqual(falls(both, 10), [(3, 9, 10)])
        other = book_of(("visit", 2, "ash", "elm"), ("mourn", 4, "fern", 3))
        self.assertEqual(falls(other, 5), [(3, 4, 5)])

    def test_pages_of_the_day_count_for_its_fall(self):
        book = book_of(("visit", 2, "ash", "elm"), ("mourn", 3, "elm", 1), ("visit", 4, "elm", "ash"))
        self.assertEqual(falls(book, 3), [()])
        self.assertEqual(dues(book, TERMS, 4), [])

    def test_days_with_pages_and_without(self):
        book = book_of(("card", 2, "ash", "elm"), ("ahead", 4, "ash", "elm"))
        self.assertEqual(falls(book, 5), [(3, 4, 5)])

    def test_the_last_days(self):
        book = tuple((page[0], page[1] + 9990) + page[2:] for page in book_of(("visit", 2, "ash", "elm")))
        self.assertEqual(falls(book, 9999, (60, 60)), [tuple(range(9993, 10000))])

    def test_later_pages_turn_nothing(self):
        book = book_of(("visit", 2, "ash", "elm"), ("visit", 5, "elm", "ash"), ("join", 5, "ash", "elm"))
        self.assertEqual(falls(book, 4), [(3, 4)])


class PartTest(unittest.TestCase):
    def test_what_is_owed_by_it_is_copied(self):
        visit, card = ("visit", 1, "ash", "elm"), ("card", 2, "fern", "elm")
        book = book_of(visit, card, ("part", 4, "elm", "birch", ()))
        self.assertEqual(dues(book, TERMS, 4), [
            ("birch", "ash", "visit", visit, (2, 3, 4)), ("birch", "fern", "card", card, (3, 4)),
            ("elm", "ash", "visit", visit, (2, 3, 4)), ("elm", "fern", "card", card, (3, 4))])

    def test_what_is_owed_to_it_is_not(self):
        visit = ("visit", 1, "ash", "elm")
        book = book_of(visit, ("part", 4, "ash", "birch", ()), ("part", 4, "fern", "oak", ()))
        self.assertEqual(due_parts(book, 4), [("elm", "ash", "visit", visit)])

    def test_rude_ones_are_copied_as_they_are(self):
        book = book_of(("card", 1, "ash", "elm"), ("part", 9, "elm", "birch", ()))
        self.assertEqual(falls(book, 12), [(2, 3, 4), (2, 3, 4)])

    def test_each_goes_its_own_way(self):
        visit = ("visit", 1, "ash", "elm")
        pages = (visit, ("part", 2, "elm", "birch", ()), ("mourn", 3, "birch", 2))
        book = book_of(*pages, ("visit", 6, "elm", "ash"))
        self.assertEqual(dues(book, TERMS, 5), [("birch", "ash", "visit", visit, (2, 5)),
                                                ("elm", "ash", "visit", visit, (2, 3, 4, 5))])
        self.assertEqual(due_parts(book, 6), [("birch", "ash", "visit", visit)])
        book = book_of(*pages, ("visit", 6, "birch", "ash"))
        self.assertEqual(due_parts(book, 6), [("elm", "ash", "visit", visit)])

    def test_a_parting_that_is_idle_copies_nothing(self):
        visit = ("visit", 1, "ash", "elm")
        book = book_of(visit, ("part", 2, "elm", "fern", ()))
        self.assertEqual(due_parts(book, 2), [("elm", "ash", "visit", visit)])

    def test_of_the_day_it_parts(self):
        visit = ("visit", 2, "ash", "elm")
        book = book_of(visit, ("part", 2, "elm", "birch", ()))
        self.assertEqual(due_parts(book, 2), [("elm", "ash", "visit", visit)])


class JoinTest(unittest.TestCase):
    def test_one_in_the_place_of_the_other(self):
        one, two = ("visit", 1, "ash", "elm"), ("card", 2, "elm", "ash")
        book = book_of(one, two, ("join", 3, "fern", "elm"))
        self.assertEqual(dues(book, TERMS, 3), [("ash", "fern", "card", two, (3,)),
                                                ("fern", "ash", "visit", one, (2, 3))])

    def test_those_between_both_are_struck(self):
        pages = (("visit", 1, "ash", "elm"), ("card", 2, "elm", "ash"), ("card", 1, "fern", "elm"))
        self.assertEqual(len(dues(book_of(*pages), TERMS, 2)), 3)
        for a, b in (("ash", "elm"), ("elm", "ash")):
            book = book_of(*pages, ("join", 3, a, b))
            self.assertEqual(due_parts(book, 3), [(a, "fern", "card", pages[2])])

    def test_unlike_pages_both_stay(self):
        one, two = ("card", 1, "ash", "elm"), ("card", 1, "ash", "fern")
        book = book_of(one, two, ("join", 2, "elm", "fern"))
        self.assertEqual(due_parts(book, 2), [("elm", "ash", "card", one), ("elm", "ash", "card", two)])

    def stay(self, *pages):
        """The falls that stay of a DUE of elm and its copy of birch when birch goes up in elm."""
        first = (("visit", 1, "ash", "elm"), ("part", 2, "elm", "birch", ()))
        stays = []
        for a, b in (("elm", "birch"), ("birch", "elm")):
            book = book_of(*first, *pages, ("join", 9, a, b), ("mourn", 9, a, 30))
            told = dues(book, (9, 9), 9)
            self.assertEqual([due[:4] for due in told], [(a, "ash", "visit", first[0])])
            stays.append(told[0][4])
        self.assertEqual(stays[0], stays[1])
        return stays[0]

    def test_falls_alike(self):
        self.assertEqual(self.stay(), (2, 3, 4, 5, 6, 7, 8))

    def test_more_falls_stay(self):
        self.assertEqual(self.stay(("mourn", 3, "birch", 2)), (2, 3, 4, 5, 6, 7, 8))
        self.assertEqual(self.stay(("mourn", 3, "elm", 2)), (2, 3, 4, 5, 6, 7, 8))
        self.assertEqual(self.stay(("mourn", 3, "elm", 2), ("mourn", 8, "birch", 1)), (2, 3, 4, 5, 6, 7))
        # More falls stay, though the last one is later, and though they are less as tuples.
        self.assertEqual(self.stay(("mourn", 3, "elm", 1), ("mourn", 7, "birch", 2)), (2, 4, 5, 6, 7, 8))
        self.assertEqual(self.stay(("mourn", 3, "elm", 1), ("mourn", 8, "birch", 1), ("mourn", 4, "birch", 1)),
                         (2, 4, 5, 6, 7, 8))

    def test_of_as_many_the_one_whose_last_fall_is_earlier(self):
        self.assertEqual(self.stay(("mourn", 3, "elm", 1), ("mourn", 8, "birch", 1)), (2, 3, 4, 5, 6, 7))
        self.assertEqual(self.stay(("mourn", 3, "birch", 1), ("mourn", 8, "elm", 1)), (2, 3, 4, 5, 6, 7))
        # The last fall goes ahead of what is less as tuples.
        self.assertEqual(self.stay(("mourn", 3, "elm", 2), ("mourn", 5, "birch", 1), ("mourn", 8, "elm", 1),
                                   ("mourn", 6, "birch", 2)), (2, 5, 6, 7))

    def test_else_the_falls_that_are_less(self):
        self.assertEqual(self.stay(("mourn", 3, "elm", 1), ("mourn", 5, "birch", 1)), (2, 3, 4, 6, 7, 8))
        self.assertEqual(self.stay(("mourn", 3, "birch", 1), ("mourn", 5, "elm", 1)), (2, 3, 4, 6, 7, 8))

    def test_no_falls(self):
        visit = ("visit", 1, "ash", "elm")
        book = book_of(visit, ("mourn", 1, "ash", 30), ("part", 2, "elm", "birch", ()), ("join", 5, "birch", "elm"))
        self.assertEqual(dues(book, TERMS, 6), [("birch", "ash", "card", visit, ())])

    def test_rude_ones(self):
        pages = (("card", 1, "ash", "elm"), ("part", 1, "elm", "birch", ()), ("part", 2, "elm", "oak", ()),
                 ("mourn", 3, "oak", 1))
        book = book_of(*pages, ("join", 9, "oak", "elm"))
        self.assertEqual(falls(book, 8), [(2, 3, 4), (2, 4, 5)])
        self.assertEqual(falls(book, 9), [(2, 3, 4)])

    def test_a_joining_that_is_idle_turns_nothing(self):
        visit = ("visit", 1, "ash", "elm")
        book = book_of(visit, ("join", 2, "birch", "elm"), ("join", 2, "elm", "birch"))
        self.assertEqual(due_parts(book, 2), [("elm", "ash", "visit", visit)])

    def test_copies_that_come_together_by_two_joinings(self):
        visit = ("visit", 1, "ash", "elm")
        book = book_of(visit, ("part", 2, "elm", "birch", ()), ("join", 3, "fern", "elm"), ("join", 4, "fern", "birch"))
        self.assertEqual(dues(book, TERMS, 4), [("fern", "ash", "visit", visit, (2, 3, 4))])


class OrderTest(unittest.TestCase):
    def test_by_ower_owed_then_as_pages_stand(self):
        pages = [("visit", 5, "ash", "elm"), ("card", 5, "ash", "elm"), ("card", 6, "ash", "elm"),
                 ("visit", 2, "ash", "elm"), ("card", 1, "fern", "elm"), ("card", 9, "fern", "ash"),
                 ("visit", 3, "ash", "fern")]
        right = [("ash", "fern", pages[5]), ("elm", "ash", pages[3]), ("elm", "ash", pages[1]),
                 ("elm", "ash", pages[0]), ("elm", "ash", pages[2]), ("elm", "fern", pages[4]),
                 ("fern", "ash", pages[6])]
        for day in (9, 10, 30):
            self.assertEqual([(due[0], due[1], due[3]) for due in dues(book_of(*pages), TERMS, day)], right)

    def test_names_rise_as_texts(self):
        names = ("a", "ab", "b")
        pages = [("house", 0, name, ()) for name in names] + [("card", 1, "zz", name) for name in names]
        book = in_order(pages + [("house", 0, "zz", ())])
        self.assertEqual([due[0] for due in dues(book, TERMS, 1)], ["a", "ab", "b"])


class MarksTest(unittest.TestCase):
    def test_each_mark(self):
        pages = [("part", 1, "ash", "oak", ()), ("part", 1, "oak", "elm", ()), ("join", 2, "ash", "oak"),
                 ("join", 2, "elm", "oak"), ("home", 3, "ash", (1,)), ("home", 3, "oak", (1,)), ("mourn", 3, "ash", 1),
                 ("mourn", 3, "oak", 1), ("ahead", 3, "ash", "elm"), ("ahead", 3, "ash", "oak"),
                 ("card", 3, "ash", "elm"), ("card", 3, "ash", "oak"), ("card", 4, "elm", "ash"),
                 ("visit", 5, "oak", "ash"), ("visit", 5, "fern", "elm"), ("house", 7, "oak", ()),
                 ("visit", 9, "ash", "elm")]
        idle = [1, 3, 5, 7, 9, 11, 13, 15]
        book = book_of(*pages)
        told = dict(marks(book, TERMS, 8))
        self.assertEqual([k for k, page in enumerate(pages[:16]) if told[page] == ("idle",)], idle)
        self.assertEqual({told[pages[k]] for k in (0, 2, 4, 6, 8)}, {("done",)})
        self.assertEqual([told[pages[k]] for k in (10, 12, 14)], [("due",), ("answer", 1), ("due",)])
        self.assertNotIn(pages[16], told)
        self.assertEqual([page for page, mark in marks(book, TERMS, 9)], list(book))

    def test_as_pages_stand_up_to_the_day(self):
        book = book_of(("card", 3, "ash", "elm"), ("mourn", 3, "elm", 2), ("card", 5, "elm", "ash"))
        for day in range(7):
            self.assertEqual([page for page, mark in marks(book, TERMS, day)], list(up_to(book, day)))

    def test_the_lists_are_the_askers_own(self):
        book = book_of(("card", 3, "ash", "elm"))
        for function in (dues, marks):
            told = function(book, TERMS, 4)
            kept = list(told)
            self.assertTrue(kept)
            told.clear()
            self.assertEqual(function(book, TERMS, 4), kept)


class DrawnTest(unittest.TestCase):
    def test_against_the_second_walk(self):
        total = [0] * 6
        for book, terms, day in drawn_walks(63, 500):
            second = Second(book, terms, day)
            self.assertEqual(repr(dues(book, terms, day)), repr(second.dues()))
            self.assertEqual(repr(marks(book, terms, day)), repr(second.marked))
            total = [one + two for one, two in zip(total, second.sums())]
        self.assertGreater(min(total), 50, total)

    def test_all_days_of_some_books(self):
        rng = random.Random(64)
        for _ in range(12):
            book, terms = draw_walk_book(rng, start=rng.choice((0, 9950))), draw_terms(rng)
            kept = repr(book)
            first = book[0][1]
            for day in [0] + list(range(first, min(first + 60, 9999) + 1)):
                second = Second(book, terms, day)
                self.assertEqual(repr(dues(book, terms, day)), repr(second.dues()))
                self.assertEqual(repr(marks(book, terms, day)), repr(second.marked))
                self.assertEqual(dues(up_to(book, day), terms, day), second.dues())
            self.assertEqual(repr(book), kept)

    def test_many_goings_and_few_houses(self):
        for book, terms, day in drawn_walks(65, 150, kinds=GOING + ("mourn", "home"), names=("a", "b", "c")):
            second = Second(book, terms, day)
            self.assertEqual(repr(dues(book, terms, day)), repr(second.dues()))
            self.assertEqual(repr(marks(book, terms, day)), repr(second.marked))

    def test_partings_joinings_and_mourning(self):
        kinds = GOING + ("part",) * 8 + ("join", "mourn", "mourn", "mourn", "mourn", "mourn")
        self.assertLess(set(kinds), set(ALL))
        spare = 0
        for book, terms, day in drawn_walks(66, 250, kinds=kinds, many=80):
            second = Second(book, terms, day)
            spare += second.one
            self.assertEqual(repr(dues(book, terms, day)), repr(second.dues()))
        self.assertGreater(spare, 50)

    def test_far_behind(self):
        rng = random.Random(67)
        for _ in range(4):
            book, terms = draw_walk_book(rng, many=80, days=400), (60, 60)
            self.assertEqual(repr(dues(book, terms, 400)), repr(Second(book, terms, 400).dues()))


if __name__ == "__main__":
    unittest.main()
