"""PAGES, BOOKS, DUES and CASES written as texts."""


def page_word(part):
    """A part of a PAGE as a word: a HOME by its weekdays, all else as it is."""
    if isinstance(part, tuple):
        return "".join(str(number) for number in part) or "-"
    return str(part)


def page_line(page):
    """A PAGE as a line."""
    return " ".join(page_word(part) for part in page)


def book_lines(book):
    """The lines of a BOOK's PAGES."""
    return [page_line(page) for page in book]


def days_word(days):
    """Days as a word."""
    return ",".join(str(day) for day in days) or "-"


def due_line(due):
    """A DUE as a line."""
    ower, owed, sort, page, falls = due
    return f"{ower} {owed} {sort} {days_word(falls)} {page_line(page)}"


def ring_word(ring):
    """A RING as a word: the first NAMES of its SAYINGS."""
    return ">".join(saying[0] for saying in ring)


def node_words(node):
    """The words of a node of CASES, without those of its parts."""
    kind = node[0]
    if kind == "rings":
        return [kind, str(len(node[1]))] + [ring_word(ring) for ring in node[1]]
    some = ring_word(node[1]) if kind == "one" else ",".join(node[1])
    if kind in ("one", "more"):
        return [kind, some, str(len(node[2]))]
    return [kind, some]


def cases_line(cases):
    """CASES as words, a node ahead of its parts, or "none"."""
    if cases is None:
        return "none"
    words = []
    # A row of nodes to come, the next one last, for nodes may lie deeper than calls can.
    waiting = [cases]
    while waiting:
        node = waiting.pop()
        words.extend(node_words(node))
        if len(node) == 3:
            waiting.extend(node[2][::-1])
    return " ".join(words)
