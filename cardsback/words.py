"""Words of texts, and what each of them writes."""

from cardsback.days import WEEK, is_home, is_name, is_rising

# From which number to which one the numbers of each form are.
BOUNDS = {
    "day": (0, 9999),
    "many": (1, 60),
    "term": (1, 60),
    "rings": (1, 60),
    "parts": (0, 60),
    "k": (0, 999999),
    "most": (1, 4),
    "far": (1, 28),
}


def number_of(word, least, greatest):
    """The NUMBER from least to greatest that a word writes, or None."""
    if not 1 <= len(word) <= len(str(greatest)) or not all("0" <= sign <= "9" for sign in word):
        return None
    number = int(word)
    # A 0 ahead is written by no number.
    if str(number) != word or not least <= number <= greatest:
        return None
    return number


def home_of_word(word):
    """The HOME that a word writes, or None."""
    if word == "-":
        return ()
    home = tuple(number_of(sign, 0, WEEK - 1) for sign in word)
    return home if home and is_home(home) else None


def name_of_word(word):
    """The NAME that a word is, or None."""
    return word if is_name(word) else None


def names_of_word(word):
    """The NAMES, with commas between, that a word writes, or None."""
    names = tuple(word.split(","))
    return names if all(is_name(name) for name in names) else None


def ring_of_word(word):
    """The RING that a word writes by the first NAMES of its SAYINGS, or None."""
    names = word.split(">")
    if len(names) < 2 or not is_rising(sorted(names)) or not all(is_name(name) for name in names):
        return None
    return tuple(zip(names, names[1:] + names[:1]))


READERS = {
    "home": home_of_word,
    "name": name_of_word,
    "names": names_of_word,
    "ring": ring_of_word,
}


def thing_of(form, word):
    """The thing of a form that a word writes, or None where it writes none."""
    if form in BOUNDS:
        least, greatest = BOUNDS[form]
        return number_of(word, least, greatest)
    reader = READERS[form]
    return reader(word)
