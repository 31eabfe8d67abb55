"""WALKING a BOOK by days: the DUES that stand, and the MARK of each PAGE."""

from cardsback.books import up_to
from cardsback.days import weekday
from cardsback.mourning import add_mourning, is_mourning
from cardsback.pages import names_of, page_day, page_kind, page_place
from cardsback.standing import can_be_done, turn_houses

GOINGS = ("card", "visit")


def falls_left(terms, due):
    """The LEFT of a DUE."""
    ower, owed, sort, page, falls = due
    term = terms[0] if sort == "visit" else terms[1]
    return term - len(falls)


def is_rude(terms, due):
    """Whether a DUE is RUDE."""
    return falls_left(terms, due) == 0


def due_place(due):
    """By this DUES are told: what is less is told ahead."""
    return due[0], due[1], page_place(due[3])


def put_for(due, a, b):
    """The DUE with a in the place of b."""
    return tuple(a if name == b else name for name in due[:2]) + due[2:]


def staying_place(due):
    """Of two DUES that have one ower, owed and page the one for which this is less stays."""
    falls = due[4]
    return -len(falls), falls[-1:], falls


def made_one(some):
    """The DUES that stay, where of those that have one ower, owed and page just one does."""
    kept = {}
    for due in some:
        key = (due[0], due[1], due[3])
        if key not in kept or staying_place(due) < staying_place(kept[key]):
            kept[key] = due
    return list(kept.values())


class Walk:
    """How all stands while the PAGES of a BOOK are done one by one."""

    def __init__(self, limits):
        # The TERMS by which DUES fall.
        self.limits = limits
        # HOMES, and days of mourning, by NAMES.
        self.homes = {}
        self.mourning = {}
        self.known = []
        self.dues = []
        self.marks = []
        # Pairs of a GOING and the DUES that it answered.
        self.answers = []
        # How many DUES were copied, were struck, and did not stay beside another one.
        self.copied = 0
        self.struck = 0
        self.spare = 0

    def mourns_on(self, name, day):
        """Whether a house that stands mourns on a day, as is known now."""
        return is_mourning(self.mourning, name, day)

    def at_home_on(self, name, day):
        """Whether a house that stands is AT HOME on a day, as is known now."""
        return weekday(day) in self.homes[name] and not self.mourns_on(name, day)

    def do_page(self, page):
        """Do a PAGE, where it isn't IDLE, and keep its MARK."""
        if not can_be_done(self.homes, self.known, page):
            self.marks.append((page, ("idle",)))
            return
        turn_houses(self.homes, self.known, page)
        kind = page_kind(page)
        if kind in GOINGS:
            self.marks.append((page, self.go_out(page)))
            return
        if kind == "part":
            self.part_dues(names_of(page))
        elif kind == "join":
            self.join_dues(names_of(page))
        elif kind == "mourn":
            add_mourning(self.mourning, page)
        self.marks.append((page, ("done",)))

    def go_out(self, page):
        """Let a GOING answer DUES, or make one, and tell its MARK."""
        kind, day, a, b = page
        met = kind == "visit" and self.at_home_on(b, day) and not self.mourns_on(a, day)
        answers = [due for due in self.dues if due[:2] == (a, b) and (met or due[2] == "card")]
        if answers:
            self.dues = [due for due in self.dues if due not in answers]
            self.answers.append((page, answers))
            return "answer", len(answers)
        self.dues.append((b, a, "visit" if met else "card", page, ()))
        return ("due",)

    def part_dues(self, names):
        """Let the second house owe, too, what the first one owes."""
        copies = [(names[1],) + due[1:] for due in self.dues if due[0] == names[0]]
        self.dues.extend(copies)
        self.copied += len(copies)

    def join_dues(self, names):
        """Put the first house in the place of the second one."""
        a, b = names
        others = [put_for(due, a, b) for due in self.dues if due[:2] not in ((a, b), (b, a))]
        kept = made_one(others)
        self.struck += len(self.dues) - len(others)
        self.spare += len(others) - len(kept)
        self.dues = kept

    def falls_on(self, due, day):
        """Whether a DUE falls behind the PAGES of a day."""
        if is_rude(self.limits, due) or page_day(due[3]) >= day:
            return False
        return not self.mourns_on(due[0], day) and not self.mourns_on(due[1], day)

    def end_day(self, day):
        """Let DUES fall behind the PAGES of a day."""
        self.dues = [due[:4] + (due[4] + (day,),) if self.falls_on(due, day) else due for due in self.dues]


def walked(book, terms, day):
    """How all stands BEHIND the day."""
    by_days = {}
    for page in up_to(book, day):
        by_days.setdefault(page_day(page), []).append(page)
    walk = Walk(terms)
    # Ahead of the first PAGE nothing stands that could fall.
    for today in range(min(by_days, default=day), day + 1):
        for page in by_days.get(today, ()):
            walk.do_page(page)
        walk.end_day(today)
    return walk


def dues(book, terms, day):
    """The DUES that stand BEHIND the day, by ower, by owed, then as their pages STAND."""
    return sorted(walked(book, terms, day).dues, key=due_place)


def marks(book, terms, day):
    """Pairs (PAGE, MARK) of the PAGES of days up to this one, as they STAND."""
    return walked(book, terms, day).marks
