"""Sheets: lines that tell rows, figures, families and books, and claims on them that are judged."""

from hookedcords.checks import MOST_CORDS, MOST_QUANTITY
from hookedcords.claims import FORMS, SORTS, Findings, is_claim_so
from hookedcords.errors import BadWords
from hookedcords.wording import Words, take_book, take_family, take_last_figure, take_row


def take_cords(words):
    """The number of cords that the first line of a sheet tells."""
    words.take_one_of(("cords",))
    cords = words.take_number(1, MOST_CORDS)
    words.need_end()
    return cords


def take_thing(words, sort, cords):
    """The thing of this sort that all further words tell."""
    if sort == "row":
        return take_row(words, cords)
    if sort == "figure":
        return take_last_figure(words, cords)
    if sort == "family":
        return take_family(words)
    return take_book(words, cords)


def take_told(words, kind):
    """What the next word tells in a claim: a name, a number, or None of "none"."""
    if kind in SORTS:
        return words.take_name()
    if kind == "quantity":
        return words.take_number(1, MOST_QUANTITY)
    if kind == "length" and words.ahead() == "none":
        words.take_one_of(("none",))
        return None
    return words.take_number(0, None)


def take_claim(words, word):
    """The pair of the word of a claim and the list of what all further words tell."""
    told = [take_told(words, kind) for kind in FORMS[word]]
    words.need_end()
    return word, told


def sheet_of(text):
    """The triple (CORDS, THINGS, CLAIMS) of a sheet.

    THINGS: a dict with a dict for each sort: for each name the thing that counts. CLAIMS: a list.
    """
    if type(text) is not str:
        raise BadWords(None, None)
    lines = text.split("\n")
    cords = take_cords(Words(0, lines[0]))
    things = {sort: {} for sort in SORTS}
    claims = []
    for number, line in enumerate(lines[1:]):
        words = Words(number + 1, line)
        sorts = [] if claims else list(SORTS)
        word = words.take_one_of(sorts + list(FORMS))
        if word in FORMS:
            claims.append(take_claim(words, word))
        else:
            name = words.take_name()
            things[word][name] = take_thing(words, word, cords)
    return cords, things, claims


def sheet_told(text):
    """The number of cords, and the rows, figures, families and books: ascending tuples of pairs of name and thing."""
    cords, things, _ = sheet_of(text)
    return (cords,) + tuple([tuple(sorted(things[sort].items())) for sort in SORTS])


def judged(text):
    """For each claim of the sheet whether it is so."""
    cords, things, claims = sheet_of(text)
    findings = Findings(cords)
    return tuple([is_claim_so(findings, things, word, told) for word, told in claims])
