"""Books: which figures follow one another by told likenesses, and which pairs of a book are needed."""

from itertools import combinations

from hookedcords.checks import need_family_row
from hookedcords.errors import TooGreat
from hookedcords.faults import need_own_figure
from hookedcords.likeness import (
    lots_by_book, need_book_told, need_likened, need_to_follow, need_with_book, unsaid_numbers,
)
from hookedcords.putting import figure_of_row, points_by_piece, put_upon
from hookedcords.tables import Table

MOST_LOTS = 60


def need_book(cords, family, book):
    """The book itself."""
    need_with_book(cords, family, book)
    return book


def lots_of(cords, family, book):
    """For each figure of the family, ascending, the number of its lot by the book."""
    need_with_book(cords, family, book)
    need_likened(cords, family)
    return lots_by_book(Table(cords, family), book)


def lot_count(cords, family, book):
    """How many lots there are by the book."""
    return max(lots_of(cords, family, book)) + 1


def lot_of(cords, family, book, figure):
    """The ascending tuple of the figures of the lot of the figure."""
    need_with_book(cords, family, book)
    need_own_figure(cords, family, figure)
    need_likened(cords, family)
    table = Table(cords, family)
    lots = lots_by_book(table, book)
    lot = lots[table.numbers[figure]]
    return tuple([one for one, number in zip(table.figures, lots) if number == lot])


def least_figure(cords, family, book, figure):
    """The first figure of the lot of the figure."""
    return lot_of(cords, family, book, figure)[0]


def does_follow(cords, family, book, figure, other):
    """Whether both figures are in one lot by the book."""
    need_to_follow(cords, family, book, figure, other)
    return unsaid_numbers_by(cords, family, book, ((figure, other),)) == ()


def rows_follow(cords, family, book, row, far_row):
    """Whether the figures of both rows of the family's deeds are in one lot by the book."""
    need_with_book(cords, family, book)
    need_family_row(cords, family, row)
    need_family_row(cords, family, far_row)
    return does_follow(cords, family, book, figure_of_row(cords, row), figure_of_row(cords, far_row))


def lot_table(cords, family, book):
    """For each lot and each lot the number of the lot of a figure of the one upon a figure of the other one."""
    need_with_book(cords, family, book)
    need_likened(cords, family)
    table = Table(cords, family)
    lots = lots_by_book(table, book)
    if max(lots) + 1 > MOST_LOTS:
        raise TooGreat(MOST_LOTS)
    firsts = [table.figures[lot[0]] for lot in points_by_piece(lots)]
    rows = []
    for one in firsts:
        rows.append(tuple([lots[table.numbers[put_upon(cords, one, two)]] for two in firsts]))
    return tuple(rows)


def unsaid_numbers_by(cords, family, book, far_book):
    """The ascending tuple of the numbers of the far book's pairs that the book doesn't say."""
    table = Table(cords, family)
    return unsaid_numbers(table, lots_by_book(table, book), far_book)


def unsaid_pairs(cords, family, book, far_book):
    """The ascending tuple of the numbers of the far book's pairs that the book doesn't say."""
    need_with_book(cords, family, book)
    need_book_told(cords, family, far_book)
    need_likened(cords, family)
    return unsaid_numbers_by(cords, family, book, far_book)


def says(cords, family, book, far_book):
    """Whether by the book both figures of each pair of the far book follow one another."""
    return unsaid_pairs(cords, family, book, far_book) == ()


def does_part_say(table, book, numbers):
    """Whether the pairs with these numbers by themselves say the whole book."""
    part = [book[number] for number in numbers]
    return unsaid_numbers(table, lots_by_book(table, part), book) == ()


def spare_pairs(cords, family, book):
    """The ascending tuple of the numbers of the pairs without which the book says all that it says."""
    need_with_book(cords, family, book)
    need_likened(cords, family)
    table = Table(cords, family)
    numbers = list(range(len(book)))
    return tuple([one for one in numbers if does_part_say(table, book, [two for two in numbers if two != one])])


def least_part(cords, family, book):
    """The ascending tuple of the numbers of the fewest pairs that say the whole book, of several the first."""
    need_with_book(cords, family, book)
    need_likened(cords, family)
    table = Table(cords, family)
    for many in range(len(book)):
        for numbers in combinations(range(len(book)), many):
            if does_part_say(table, book, numbers):
                return numbers
    return tuple(range(len(book)))
