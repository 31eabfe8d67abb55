"""PAGES, BOOKS and CASES read from texts."""

from cardsback.errors import NoText
from cardsback.pages import FORMS, in_order, is_page
from cardsback.words import thing_of

# What stands behind the word of a node, but for the parts themselves.
NODES = {
    "apart": ("names",),
    "short": ("names",),
    "more": ("names", "parts"),
    "rings": ("rings",),
    "one": ("ring", "parts"),
}

MOST_WITHIN = 30


def line_things(line):
    """What the words of a line write, up to the first one that can't stand, and whether this is all of it, a PAGE."""
    words = line.split(" ")
    if words[0] not in FORMS:
        return (), False
    things = words[:1]
    for form, word in zip(("day",) + FORMS[words[0]], words[1:]):
        thing = thing_of(form, word)
        # The second NAME is not the first one; a kind or a DAY stand ahead of both.
        if thing is None or thing in things[2:]:
            break
        things.append(thing)
    return tuple(things), len(things) == len(words) and is_page(tuple(things))


def read_line(row, line):
    """The PAGE that the line of this number writes, or NoText."""
    things, whole = line_things(line)
    if not whole:
        raise NoText(row, len(things))
    return things


def read_page(text):
    """The PAGE that a line writes, or NoText."""
    return read_line(0, text)


def read_book(lines):
    """The BOOK of the PAGES that lines write, or NoText."""
    return in_order([read_line(row, line) for row, line in enumerate(lines)])


class Reader:
    """The words of CASES, taken one by one."""

    def __init__(self, words):
        self.words = words
        self.taken = 0

    def take_kind(self):
        """The next word, that of a node, or NoText."""
        if self.taken == len(self.words) or self.words[self.taken] not in NODES:
            raise NoText(0, self.taken)
        self.taken += 1
        return self.words[self.taken - 1]

    def take(self, form):
        """The thing of a form that the next word writes, or NoText."""
        thing = None
        if self.taken < len(self.words):
            thing = thing_of(form, self.words[self.taken])
        if thing is None:
            raise NoText(0, self.taken)
        self.taken += 1
        return thing


def read_node(reader, within):
    """The node that the next words write, which stands within so many others, or NoText."""
    if within == MOST_WITHIN:
        raise NoText(0, reader.taken)
    kind = reader.take_kind()
    things = [reader.take(form) for form in NODES[kind]]
    if kind == "rings":
        return kind, tuple([reader.take("ring") for k in range(things[0])])
    if len(things) == 1:
        return kind, things[0]
    return kind, things[0], tuple([read_node(reader, within + 1) for k in range(things[1])])


def read_cases(text):
    """The CASES that a text writes, or None of "none"; or NoText."""
    words = text.split(" ")
    reader = Reader(words)
    cases = None
    if words[0] == "none":
        reader.taken = 1
    else:
        cases = read_node(reader, 0)
    if reader.taken < len(words):
        raise NoText(0, reader.taken)
    return cases
