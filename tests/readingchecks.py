"""Lines and texts of CASES read a second time, by patterns and by a row of what is still to come."""

import re

DAY = "0|[1-9][0-9]{0,3}"
NAME = "[a-z]{1,8}"
HOME = "-|(?=[0-6])0?1?2?3?4?5?6?"
SIXTY = "[1-9]|[1-5][0-9]|60"

LINES = {
    "house": (DAY, NAME, HOME),
    "part": (DAY, NAME, NAME, HOME),
    "join": (DAY, NAME, NAME),
    "home": (DAY, NAME, HOME),
    "mourn": (DAY, NAME, SIXTY),
    "ahead": (DAY, NAME, NAME),
    "card": (DAY, NAME, NAME),
    "visit": (DAY, NAME, NAME),
}

ODD_WORDS = (
    "", "-", "--", "0", "00", "01", "1", "6", "7", "06", "60", "61", "060", "99", "9999", "10000", "09999", "+1", "-1",
    "1.0", "1_0", "1e1", "9" * 1300, "a", "A", "z", "abcdefgh", "abcdefghi", "as1", "ash", "elm", "Ash", "036",
    "0123456", "063", "066", "007", "01234567", "-0", "0-", "ash,elm", "elm,ash", "ash,ash", "ash,,elm", ",ash", "ash,",
    ",", "ash,Elm", "ash,elmelmelm", "a>b", "a>b>c", "a>a", "a>b>a", "a>b>b", "a>", ">a", ">", "a>b,c", "a>B", "a>>b",
    "none", "apart", "short", "more", "rings", "one", "two", "house", "part", "join", "home", "mourn", "ahead", "card",
    "visit", "House", "[1]", "{}", "()", "'a'", "~", "#", "\\",
)


def fits(pattern, word):
    return re.fullmatch(f"(?:{pattern})", word) is not None


def line_fault(line):
    """The number of the first word of a line that can't stand, or None."""
    words = line.split(" ")
    if words[0] not in LINES:
        return 0
    patterns = LINES[words[0]]
    for k, pattern in enumerate(patterns, start=1):
        if k == len(words) or not fits(pattern, words[k]):
            return k
        if pattern == NAME and k == 3 and words[3] == words[2]:
            return k
    return None if len(words) == len(patterns) + 1 else len(patterns) + 1


NODES = {"apart": ["names"], "short": ["names"], "more": ["names", "nodes"], "one": ["ring", "nodes"],
         "rings": ["rings"]}


def is_ring_word(word):
    names = word.split(">")
    return len(names) > 1 and len(set(names)) == len(names) and all(fits(NAME, name) for name in names)


def cases_fault(text):
    """The number of the first word of a text that can't stand, or None."""
    words = text.split(" ")
    if words[0] == "none":
        return None if len(words) == 1 else 1
    # What is still to come, the next one last, with how many nodes it stands within.
    waiting = [("node", 0)]
    for k, word in enumerate(words):
        if not waiting:
            return k
        form, within = waiting.pop()
        if form == "node":
            if within >= 30 or word not in NODES:
                return k
            waiting += [(more, within) for more in reversed(NODES[word])]
        elif form == "names":
            if not fits(f"{NAME}(,{NAME})*", word):
                return k
        elif form == "ring":
            if not is_ring_word(word):
                return k
        elif not fits(SIXTY, word) and (word, form) != ("0", "nodes"):
            return k
        else:
            waiting += [("node" if form == "nodes" else "ring", within + 1)] * int(word)
    return len(words) if waiting else None


def reworded(rng, text, odd=ODD_WORDS):
    """A text with one word otherwise, left out, twice, or one more; or one sign so; drawn."""
    words = text.split(" ")
    k = rng.randrange(len(words))
    how = rng.randrange(9)
    if how < 3:
        words[k] = rng.choice(odd)
    elif how == 3:
        del words[k]
    elif how == 4:
        words.insert(k, words[k])
    elif how == 5:
        words.insert(rng.randrange(len(words) + 1), rng.choice(odd))
    elif how == 6:
        words[k], words[-1] = words[-1], words[k]
    else:
        text, at = " ".join(words), rng.randrange(len(text) + 1)
        sign = rng.choice(" 0169az,>-;A~")
        return text[:at] + sign + text[at + (how == 7):]
    return " ".join(words)
