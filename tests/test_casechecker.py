import itertools
import random
import unittest

from cardsback.casechecker import lets_cases
from cardsback.errors import NoPaper
from cardsback.fewest import fewest
from cardsback.wants import all_days
from tests.test_fewest import EDGES, wants_by_days
from tests.test_ringchecker import refused
from tests.test_rounds import is_small
from tests.things import ANY_THINGS, changed, outcome, put, refusal, twice_varied, variants
from tests.wantschecks import can_serve, days_together, draw_wants, is_cases, nodes_of, rises

# By days: 1 has a and b, 2 has b and c, 3 has c and a, 5 has d, 6 has d and e.
WANTS = (("a", (1, 3)), ("b", (1, 2)), ("c", (2, 3)), ("d", (5, 6)), ("e", (6,)))


def node_words(wants, most, number, taken, node):
    """The words by which a node is amiss, in their order, its parts not looked at."""
    if type(node) is not tuple or not node or type(node[0]) is not str:
        return ["shape"]
    if len(node) != {"apart": 2, "short": 2, "more": 3}.get(node[0]) or type(node[1]) is not tuple:
        return ["shape"]
    if type(node[-1]) is not tuple or not all(is_small(name) for name in node[1]):
        return ["shape"]
    if not rises(node[1]) or any(name not in dict(wants) for name in node[1]):
        return ["name"]
    there, together = set(taken), days_together(wants, node[1])
    many, held = len(node[1]), len(together & there)
    pairs = itertools.combinations([set(dict(wants)[name]) for name in node[1]], 2)
    rows = {
        "apart": [("taken", held > 0), ("common", any(one & other for one, other in pairs)),
                  ("few", not many > number - len(there))],
        "short": [("room", not (held + number - len(there)) * most < many)],
        "more": [("room", not held * most < many), ("number", len(there) == number),
                 ("parts", len(node[-1]) != len(together - there))],
    }
    return [word for word, amiss in rows[node[0]] if amiss]


def cases_outcome(wants, most, number, thing):
    """What lets_cases has to tell, by a row of nodes that are still to be looked at."""
    waiting = [((), (), thing)]
    while waiting:
        path, taken, node = waiting.pop(0)
        words = node_words(wants, most, number, taken, node)
        if words:
            return refused(words[0], *path)
        if len(node) == 3:
            fresh = sorted(days_together(wants, node[1]) - set(taken))
            parts = [(path + (k,), taken + (fresh[k],), part) for k, part in enumerate(node[2])]
            waiting = parts + waiting
    return "True"


def draw_cases(rng, wants, most, number, taken=()):
    """CASES, where drawn names make such; else nodes that are none."""
    names = [name for name, days in wants]
    for _ in range(6):
        some = tuple(name for name in names if rng.random() < rng.choice((0.5, 0.9, 1)))
        for node in rng.sample([("apart", some), ("short", some)], 2):
            if not node_words(wants, most, number, taken, node):
                return node
    if len(taken) >= number:
        return (rng.choice(("apart", "short")), tuple(names))
    for _ in range(6):
        some = tuple(name for name in names if rng.random() < 0.7)
        if len(days_together(wants, some) & set(taken)) * most < len(some):
            break
    fresh = sorted(days_together(wants, some) - set(taken))
    parts = [draw_cases(rng, wants, most, number, taken + (day,)) for day in fresh]
    return ("more", some, tuple(parts))


def turned(rng, wants, node):
    """CASES with one node otherwise, drawn, however deep it lies."""
    if len(node) == 3 and node[2] and rng.random() < 0.7:
        k = rng.randrange(len(node[2]))
        return node[:2] + (put(node[2], k, turned(rng, wants, node[2][k])),)
    some = tuple(name for name, days in wants if rng.random() < 0.5)
    parts = node[2] if len(node) == 3 else ()
    return rng.choice((("apart", some), ("apart", node[1]), ("short", node[1]), ("more", node[1], parts[1:]),
                       ("more", some, parts), ("more", node[1], parts + (node,))))


class LetsCasesTest(unittest.TestCase):
    def check(self, number, thing, word, *path, most=2):
        error = refusal(lets_cases, WANTS, most, number, thing)
        self.assertIs(type(error), NoPaper)
        self.assertEqual(repr((error.word, error.path)), repr((word, path)))
        self.assertEqual(cases_outcome(WANTS, most, number, thing), refused(word, *path))

    def check_so(self, number, thing, most=2):
        self.assertIs(lets_cases(WANTS, most, number, thing), True)
        self.assertTrue(is_cases(WANTS, most, number, thing))

    def test_apart(self):
        self.check_so(0, ("apart", ("a",)))
        self.check_so(0, ("apart", ("a", "d")))
        self.check_so(1, ("apart", ("a", "d")))
        self.check_so(1, ("apart", ("c", "e")))
        self.check(2, ("apart", ("a", "d")), "few")
        self.check(0, ("apart", ()), "few")
        self.check(0, ("apart", ("a", "b")), "common")
        self.check(1, ("apart", ("a", "d", "e")), "common")
        self.check(4, ("apart", ("a", "d", "e")), "common")

    def test_short(self):
        self.check_so(0, ("short", ("a",)))
        self.check_so(2, ("short", ("a", "b", "c", "d", "e")))
        self.check_so(1, ("short", ("a", "b", "c")))
        self.check(1, ("short", ("a", "b")), "room")
        self.check(1, ("short", ("a", "b", "c")), "room", most=3)
        self.check(0, ("short", ()), "room")
        self.check(3, ("short", ("a", "b", "c", "d", "e")), "room")

    def test_more(self):
        self.check_so(1, ("more", ("d",), (("apart", ("a",)), ("apart", ("b",)))))
        self.check_so(2, ("more", ("a",), (("apart", ("c", "e")), ("apart", ("b", "d")))))
        self.check(0, ("more", ("a",), (("apart", ("c",)), ("apart", ("b",)))), "number")
        self.check(0, ("more", (), ()), "room")
        self.check(1, ("more", ("a",), ()), "parts")
        self.check(1, ("more", ("a",), (("apart", ("c",)),)), "parts")
        self.check(1, ("more", ("a",), (("apart", ("c",)),) * 3), "parts")

    def test_days_that_are_taken(self):
        # In the first part 1 is taken, in the second one 3.
        self.check_so(1, ("more", ("a",), (("apart", ("c",)), ("apart", ("b",)))))
        self.check(1, ("more", ("a",), (("apart", ("b",)), ("apart", ("b",)))), "taken", 0)
        self.check(1, ("more", ("a",), (("apart", ("c",)), ("apart", ("c",)))), "taken", 1)
        self.check(1, ("more", ("a",), (("apart", ("c",)), ("apart", ("c", "d", "e")))), "taken", 1)
        # Of a taken day there is no part; by a day that a has, a has room.
        self.check(2, ("more", ("a",), (("more", ("a",), (None,)), None)), "room", 0)
        self.check(2, ("more", ("a",), (("more", ("a", "b", "c"), (None,) * 3), None)), "parts", 0)
        self.check(2, ("more", ("a",), (("more", ("a", "b", "c"), (None,) * 2), None)), "shape", 0, 0)

    def test_short_with_taken_days(self):
        # One day of theirs is taken, none is left: so much room, and no more.
        self.check_so(1, ("more", ("a", "b", "c"), (("short", ("a", "b", "c")),) * 3))
        self.check(1, ("more", ("a", "b", "c"), (("short", ("a", "b")),) * 3), "room", 0)
        self.check_so(1, ("more", ("a", "b", "c"), (("short", ("c",)), ("short", ("a",)), ("short", ("b",)))))
        self.check(2, ("more", ("a", "b", "c"), (("short", ("c", "d")), None, None)), "room", 0)
        self.check(2, ("more", ("a", "b", "c"), (("short", ("c", "d", "e")), None, None)), "shape", 1)

    def test_shape(self):
        for thing in ((), None, True, 0, "apart", [], {}, ("apart",), ("apart", ("a",), ()), ("more", ("a",)),
                      ["apart", ("a",)], ("more", ("a",), (), ()), ("more", ("a",), []), ("more", ("a",), None),
                      ("apart", ["a"]), ("few", ("a",)), ("apart", "a"), ("apart", None), ("apart", ("A",)),
                      ("apart", ("a", None)), ("apart", ("a", ["b"])), ("short", ("",)), ("short", ("abcdefghi",)),
                      (("apart", ("a",)),), (["apart"], ("a",)), (None, ("a",)), (True, ("a",)), ("rings", ()),
                      ("one", ("a",), ())):
            for number in (0, 1, 4):
                self.check(number, thing, "shape")

    def test_name(self):
        for word in ("apart", "short", "more"):
            for names in (("zz",), ("a", "zz"), ("b", "a"), ("a", "a"), ("a", "c", "b"), ("ab",)):
                self.check(0, (word, names) + (((),) if word == "more" else ()), "name")

    def test_which_comes_first(self):
        self.check(4, ("apart", ("b", "a", None)), "shape")
        self.check(4, ("apart", ("b", "a")), "name")
        part = ("apart", ("a", "b", "zz"))
        self.check(2, ("more", ("a",), (part, None)), "name", 0)
        self.check(3, ("more", ("a",), (("apart", ("a", "b")), None)), "taken", 0)
        self.check(3, ("more", ("d",), (("apart", ("a", "b")), None)), "common", 0)
        self.check(0, ("more", (), (None,)), "room")
        self.check(0, ("more", ("a",), (None,)), "number")
        self.check(1, ("more", ("a",), (None,)), "parts")
        self.check(1, ("more", ("a",), (None, None)), "shape", 0)

    def test_a_node_ahead_of_its_parts_and_one_part_with_all_in_it_ahead_of_the_next(self):
        self.check(2, ("more", ("zz",), (None, None)), "name")
        inner = ("more", ("d",), (("apart", ("c",)), None))
        self.check(2, ("more", ("a",), (inner, None)), "shape", 0, 1)
        self.check(2, ("more", ("a",), (("more", ("d",), (("apart", ("b",)), None)), None)), "taken", 0, 0)
        late = ("more", ("d",), (("apart", ("c",)), None))
        self.check(2, ("more", ("a",), (("apart", ("c", "e")), late)), "taken", 1, 0)

    def test_each_word_deep_within(self):
        for word, part in (("shape", None), ("name", ("short", ("zz",))), ("taken", ("apart", ("c",))),
                           ("taken", ("apart", ("d",))), ("few", ("apart", ())), ("room", ("short", ("b", "c"))),
                           ("room", ("more", ("c",), ())),
                           ("number", ("more", ("b",), (None, None)))):
            thing = ("more", ("a",), (("apart", ("c", "e")), ("more", ("d",), (("apart", ("b",)), part))))
            self.check(2, thing, word, 1, 1)

    def test_common_and_parts_deep_within(self):
        wants = WANTS + (("f", (7, 8)), ("g", (8, 9)))
        for word, part in (("common", ("apart", ("f", "g"))), ("parts", ("more", ("f",), (None,)))):
            thing = ("more", ("a",), (("apart", ("c", "e", "f")), ("more", ("d",), (part, None))))
            told = outcome(lets_cases, wants, 2, 3, thing)
            self.assertEqual(told, cases_outcome(wants, 2, 3, thing))
            self.assertEqual(told, refused(word, 1, 0))

    def test_no_wants(self):
        for number in range(5):
            self.assertEqual(outcome(lets_cases, (), 1, number, ("apart", ())), refused("few"))
            self.assertEqual(outcome(lets_cases, (), 1, number, ("short", ())), refused("room"))
            self.assertEqual(outcome(lets_cases, (), 1, number, ("more", (), ())), refused("room"))

    def test_any_thing(self):
        for number in range(5):
            for wants in ((), WANTS):
                for thing in ANY_THINGS:
                    told = outcome(lets_cases, wants, 2, number, thing)
                    self.assertEqual(told, cases_outcome(wants, 2, number, thing), repr(thing)[:80])

    def test_things_of_every_kind_in_every_place(self):
        rng = random.Random(401)
        two = ("more", ("a",), (("apart", ("c", "e")), ("apart", ("b", "d"))))
        for number, cases in ((1, ("apart", ("a", "d"))), (1, ("short", ("a", "b", "c"))), (2, two)):
            self.check_so(number, cases)
            for thing in list(variants(cases)) + list(twice_varied(rng, cases, 200)):
                kept = repr(thing)
                told = outcome(lets_cases, WANTS, 2, number, thing)
                self.assertEqual(told, cases_outcome(WANTS, 2, number, thing), repr(thing)[:120])
                self.assertEqual(repr(thing), kept)


class DrawnTest(unittest.TestCase):
    def check_sound(self, wants, most, number):
        """No set of so many days, or fewer, serves."""
        days = all_days(wants)
        for many in range(min(number, len(days)) + 1):
            for some in itertools.combinations(days, many):
                self.assertFalse(can_serve(wants, most, some))

    def test_cases_that_fewest_tells(self):
        met = {}
        rng = random.Random(402)
        for k in range(300):
            wants, most = draw_wants(rng, share=0.4), rng.randint(1, 4)
            if k % 3 == 0:
                wants = wants_by_days([rng.choice(EDGES) for _ in range(rng.randint(4, 9))])
            if refusal(fewest, wants, most) is not None or not wants:
                continue
            found, cases = fewest(wants, most)
            self.assertIs(lets_cases(wants, most, len(found) - 1, cases), True)
            self.assertIsInstance(refusal(lets_cases, wants, most, len(found), cases), NoPaper)
            for number in range(5):
                told = outcome(lets_cases, wants, most, number, cases)
                self.assertEqual(told, cases_outcome(wants, most, number, cases))
            for node in nodes_of(cases):
                met[node[0]] = met.get(node[0], 0) + 1
        self.assertGreater(min(met.values()), 10, met)
        self.assertEqual(len(met), 3)

    def test_whatever_is_let_by_is_so(self):
        rng = random.Random(403)
        let_by, words = dict.fromkeys(range(5), 0), {}
        for _ in range(350):
            wants, most = draw_wants(rng, names=5, days=7), rng.randint(1, 4)
            number = rng.randint(0, 4)
            kept = repr(wants)
            cases = draw_cases(rng, wants, most, min(number, 2) if rng.random() < 0.5 else number)
            things = [changed(rng, cases) for _ in range(4)] + [turned(rng, wants, cases) for _ in range(8)]
            for thing in [cases] + things:
                told = outcome(lets_cases, wants, most, number, thing)
                self.assertEqual(told, cases_outcome(wants, most, number, thing), repr(thing)[:200])
                if told == "True":
                    let_by[number] += 1
                    self.check_sound(wants, most, number)
                else:
                    word = told.split("'")[3]
                    words[word, "()" in told] = words.get((word, "()" in told), 0) + 1
            self.assertEqual(repr(wants), kept)
        self.assertGreater(min(let_by.values()), 20, let_by)
        # "taken" can't be told of the first node: no day is taken there.
        for word in ("shape", "name", "common", "few", "room", "number", "parts"):
            self.assertGreater(min(words.get((word, whole), 0) for whole in (True, False)), 0, words)
        self.assertGreater(words["taken", False], 20)


if __name__ == "__main__":
    unittest.main()
