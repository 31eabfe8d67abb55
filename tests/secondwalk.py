"""A second walk, written apart from the package: against it the drawn BOOKS of the tests are held."""

import random

from cardsback.pages import in_order
from tests.things import NAMES, draw_home

WEEK = tuple(range(7))
HOUSES = [("house", 0, name, WEEK) for name in ("ash", "elm", "fern")]


def book_of(*pages):
    """The BOOK of three houses that are always at home and of these PAGES."""
    return in_order(HOUSES + list(pages))


class Second:
    """How all stands BEHIND a day; DUES are kept by (ower, owed, page) as pairs (sort, falls)."""

    def __init__(self, book, terms, day):
        self.terms = {"visit": terms[0], "card": terms[1]}
        self.homes, self.met, self.black = {}, set(), []
        self.heirs, self.stocks = {}, {}
        self.kept, self.marked, self.paid = {}, [], []
        self.made = self.copied = self.answered = self.struck = self.one = 0
        pages = [page for page in book if page[1] <= day]
        for today in range(pages[0][1] if pages else 0, day + 1):
            for page in pages:
                if page[1] == today:
                    self.do(page)
            for key, (sort, falls) in self.kept.items():
                if len(falls) < self.terms[sort] and key[2][1] < today and not self.black_on(today, *key[:2]):
                    self.kept[key] = (sort, falls + (today,))

    def black_on(self, day, *names):
        return any(name in names and first <= day < first + many for kind, first, name, many in self.black)

    def do(self, page):
        kind, day, *rest = page
        new = {"house": 0, "part": 1}.get(kind)
        old = [name for name in rest if isinstance(name, str) and (new is None or name != rest[new])]
        if any(name not in self.homes for name in old) or (new is not None and rest[new] in self.met):
            self.marked.append((page, ("idle",)))
            return
        if new is not None:
            self.met.add(rest[new])
        mark = getattr(self, "do_" + kind, lambda *_: None)(page, *rest)
        self.marked.append((page, mark or ("done",)))

    def do_home(self, page, a, home):
        self.homes[a] = home

    def do_house(self, page, a, home, *stock):
        self.homes[a] = home
        self.heirs[a] = a
        self.stocks[a] = (a, *stock)

    def do_part(self, page, a, b, home):
        self.do_house(page, b, home, *self.stocks[a])
        for (ower, owed, made), worth in list(self.kept.items()):
            if ower == a:
                self.kept[b, owed, made] = worth
                self.copied += 1

    def do_join(self, page, a, b):
        del self.homes[b]
        self.heirs = {name: a if there == b else there for name, there in self.heirs.items()}
        before, self.kept = self.kept, {}
        for (ower, owed, made), (sort, falls) in before.items():
            if {ower, owed} == {a, b}:
                self.struck += 1
                continue
            key = (a if ower == b else ower, a if owed == b else owed, made)
            if key in self.kept:
                self.one += 1
                falls = stays(falls, self.kept[key][1])
            self.kept[key] = (sort, falls)

    def do_mourn(self, page, a, many):
        self.black.append(page)

    def is_met(self, page):
        kind, day, a, b = page
        return kind == "visit" and day % 7 in self.homes[b] and not self.black_on(day, a, b)

    def do_card(self, page, a, b):
        met = self.is_met(page)
        paid = [key for key in self.kept if key[:2] == (a, b) and (met or self.kept[key][0] == "card")]
        for key in paid:
            del self.kept[key]
        self.answered += len(paid)
        if paid:
            place = {made: k for k, (made, mark) in enumerate(self.marked)}
            self.paid.append((page, tuple(sorted(paid, key=lambda key: place[key[2]]))))
            return ("answer", len(paid))
        self.made += 1
        self.kept[b, a, page] = ("visit" if met else "card", ())
        return ("due",)

    do_visit = do_card

    def dues(self):
        place = {page: k for k, (page, mark) in enumerate(self.marked)}
        rows = [(ower, owed, sort, page, falls) for (ower, owed, page), (sort, falls) in self.kept.items()]
        return sorted(rows, key=lambda due: (due[0], due[1], place[due[3]]))

    def left(self, due):
        return self.terms[due[2]] - len(due[4])

    def last(self, day, due):
        lacking = self.left(due)
        later = day
        while lacking:
            later += 1
            lacking -= not self.black_on(later, due[0], due[1])
        return later

    def sums(self):
        return (self.made, self.copied, len(self.kept), self.answered, self.struck, self.one)


def stays(one, other):
    """Which falls stay, by the three clauses of point 9."""
    if len(one) != len(other):
        return max(one, other, key=len)
    if one and one[-1] != other[-1]:
        return min(one, other, key=lambda falls: falls[-1])
    return min(one, other)


def draw_walk_page(rng, names, there, days, kinds):
    kind = rng.choice(kinds)
    day = rng.randrange(days)
    a, b = rng.sample(names if rng.random() < 0.4 else there, 2)
    if kind == "part":
        b = rng.choice([name for name in names if name != a])
        return (kind, day, a, b, draw_home(rng))
    if kind in ("house", "home"):
        return (kind, day, a, draw_home(rng))
    if kind == "mourn":
        return (kind, day, a, rng.randint(1, 9))
    return (kind, day, a, b)


GOING = ("visit",) * 10 + ("card",) * 7
ALL = GOING + ("part",) * 5 + ("join",) + ("mourn",) * 4 + ("home",) * 2 + ("ahead", "house")


def draw_walk_book(rng, many=60, days=30, kinds=ALL, names=NAMES[:6], start=0):
    """A BOOK in which much is owed: some houses from the first days on, most of them often at home."""
    there = rng.sample(names, min(rng.randint(2, 4), len(names)))
    pages = []
    for name in there:
        home = WEEK if rng.random() < 0.4 else draw_home(rng)
        pages.append(("house", rng.choice((0, 0, 0, 2)), name, home))
    pages += [draw_walk_page(rng, names, there, days, kinds) for _ in range(rng.randint(many // 3, many))]
    # Who parted goes up again where it came from, so that copies come together.
    for kind, day, *rest in list(pages):
        if kind == "part" and "join" in kinds and rng.random() < 0.6:
            a, b = rng.sample(rest[:2], 2)
            pages.append(("join", min(day + rng.randint(1, 9), days), a, b))
    return in_order([(page[0], page[1] + start) + page[2:] for page in pages])


def draw_terms(rng, most=12):
    return rng.randint(1, most), rng.randint(1, most)


def drawn_walks(seed, rounds, **how):
    """Drawn triples of a BOOK, TERMS and a DAY."""
    rng = random.Random(seed)
    for _ in range(rounds):
        book = draw_walk_book(rng, **how)
        yield book, draw_terms(rng), rng.choice((0, 29, 35, 90, rng.randrange(45), rng.randrange(45)))
