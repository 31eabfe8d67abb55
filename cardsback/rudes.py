"""Who is RUDE, with the GOING and the days."""

from cardsback.walking import dues, is_rude


def rude_papers(book, terms, day):
    """Tuples (ower, owed, page, falls) of the RUDE DUES BEHIND the day."""
    told = [due for due in dues(book, terms, day) if is_rude(terms, due)]
    return [(ower, owed, page, falls) for ower, owed, sort, page, falls in told]


def rude(book, terms, day):
    """Tuples (ower, owed, page, last one of its falls) of the RUDE DUES BEHIND the day."""
    return [(ower, owed, page, falls[-1]) for ower, owed, page, falls in rude_papers(book, terms, day)]
