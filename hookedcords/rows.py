"""Rows of deeds: their figures, their leftovers, and rows compared, turned over, mirrored."""

from hookedcords.checks import WORDS, is_deed, need_cords, need_number, need_row, places_for
from hookedcords.errors import BadNumber
from hookedcords.putting import deeds_with, figure_of_deed, row_course


def deeds_of(cords):
    """All deeds on so many cords, ascending."""
    need_cords(cords)
    return deeds_with(cords, WORDS)


def deed_figure(cords, deed):
    """The figure of the row that has this deed alone."""
    need_cords(cords)
    if not is_deed(cords, deed):
        raise BadNumber(deed)
    return figure_of_deed(cords, deed)


def figures_on_way(cords, row):
    """The figures of () and of the first deed, the first two, and so on to the whole row."""
    need_cords(cords)
    need_row(cords, row)
    return tuple(row_course(cords, row)[0])


def leftovers_on_way(cords, row):
    """The leftovers of () and of the first deed, the first two, and so on to the whole row."""
    need_cords(cords)
    need_row(cords, row)
    return tuple(row_course(cords, row)[1])


def figure_of(cords, row):
    """The figure of the row."""
    return figures_on_way(cords, row)[-1]


def leftovers_of(cords, row):
    """The leftovers of the row."""
    return leftovers_on_way(cords, row)[-1]


def are_alike(cords, row, far_row):
    """Whether both rows have the same figure."""
    return figure_of(cords, row) == figure_of(cords, far_row)


def are_alike_to_last(cords, row, far_row):
    """Whether both rows have the same figure and the same leftovers."""
    if not are_alike(cords, row, far_row):
        return False
    return leftovers_of(cords, row) == leftovers_of(cords, far_row)


def row_over(cords, row):
    """The row turned over."""
    need_cords(cords)
    need_row(cords, row)
    return row[::-1]


def row_mirrored(cords, row):
    """The row mirrored."""
    need_cords(cords)
    need_row(cords, row)
    return tuple([(word, places_for(cords, word) - 1 - place) for word, place in row])


def first_together(cords, row, place, far_place):
    """Behind how many first deeds the top points of both places hang together, None if they never do."""
    figures = figures_on_way(cords, row)
    need_number(place, 0, cords - 1)
    need_number(far_place, 0, cords - 1)
    for number, figure in enumerate(figures):
        if figure[place] == figure[far_place]:
            return number
    return None
