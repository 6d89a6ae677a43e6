"""Books of told likenesses, partings of a family's figures, and what follows when a parting goes well."""

from hookedcords.checks import is_tuple_of_at_most, need_cords, need_family, wrong_point
from hookedcords.errors import BadBook, BadNumber
from hookedcords.faults import is_own_figure, need_own_figure
from hookedcords.putting import straight_figure
from hookedcords.sizes import family_size, need_at_most
from hookedcords.tables import are_joined_now, lots_by_roots

MOST_PAIRS = 6
MOST_LIKENED = 1000


def need_likened(cords, family):
    """TooGreat of a family with more figures than are likened."""
    need_at_most(cords, family, MOST_LIKENED)


def is_pair_of_figures(cords, family, value):
    """Whether value, of any kind, is a tuple of two figures of the family."""
    if type(value) is not tuple or len(value) != 2:
        return False
    return all([is_own_figure(cords, family, figure) for figure in value])


def need_book_told(cords, family, book):
    """BadBook of what is no book."""
    if not is_tuple_of_at_most(book, MOST_PAIRS):
        raise BadBook(None)
    for number, pair in enumerate(book):
        if not is_pair_of_figures(cords, family, pair):
            raise BadBook(number)


def need_with_book(cords, family, book):
    """The errors of a number of cords, a family and a book."""
    need_cords(cords)
    need_family(family)
    need_book_told(cords, family, book)


def need_to_follow(cords, family, book, figure, other):
    """The errors that are asked ahead of whether two figures follow one another by a book."""
    need_with_book(cords, family, book)
    need_own_figure(cords, family, figure)
    need_own_figure(cords, family, other)
    need_likened(cords, family)


def are_lots(cords, family, value):
    """Whether value, of any kind, tells a parting of the family's figures."""
    if type(value) is not tuple or len(value) != family_size(cords, family):
        return False
    return wrong_point(value) is None


def need_lots(cords, family, lots):
    """BadNumber(lots) of what tells no parting of the family's figures."""
    if not are_lots(cords, family, lots):
        raise BadNumber(lots)


def links_behind(table, link):
    """The links that each deed above and each deed below make of a link."""
    near, far, one, number, two = link
    links = []
    for _, above, below in table.sides:
        links.append((above[near], above[far], above[one], number, two))
        links.append((below[near], below[far], one, number, below[two]))
    return links


def well_parted(table, pairs):
    """The pair (LOTS, LINKS) of the least parting that goes well and has both of each pair in one lot.

    All figures are told by their numbers in the table. LINKS are quintuples (A, B, X, NUMBER, Y) that
    tie together just the lots: (P, Q) being the pair NUMBER, A is X upon P upon Y, B is X upon Q upon Y.
    """
    straight = table.numbers[straight_figure(table.cords)]
    parents = list(range(len(table.figures)))
    fresh = [(near, far, straight, number, straight) for number, (near, far) in enumerate(pairs)]
    links = []
    while fresh:
        link = fresh.pop()
        # What is in one lot already needs no link, and what deeds make of it is in one lot, too, in the end.
        if are_joined_now(parents, link[0], link[1]):
            links.append(link)
            fresh.extend(links_behind(table, link))
    return lots_by_roots(parents), links


def numbered_pairs(table, book):
    """The pairs of a book, with the numbers of the figures."""
    return [(table.numbers[near], table.numbers[far]) for near, far in book]


def lots_by_book(table, book):
    """The lots by the book."""
    return well_parted(table, numbered_pairs(table, book))[0]


def unsaid_numbers(table, lots, book):
    """The ascending tuple of the numbers of the book's pairs that have figures of two of the lots."""
    unsaid = []
    for number, (near, far) in enumerate(numbered_pairs(table, book)):
        if lots[near] != lots[far]:
            unsaid.append(number)
    return tuple(unsaid)


def does_part_well(table, lots):
    """Whether the parting goes well: it is enough to look at the first figure and each other one of a lot."""
    firsts = [lots.index(lot) for lot in lots]
    for _, above, below in table.sides:
        for number, first in enumerate(firsts):
            if lots[above[number]] != lots[above[first]] or lots[below[number]] != lots[below[first]]:
                return False
    return True
