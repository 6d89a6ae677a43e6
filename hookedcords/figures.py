"""Figures: their pieces, and what comes of them when put upon, turned over, mirrored."""

from hookedcords.checks import is_between, need_cords, need_figure, need_number, need_two_figures
from hookedcords.errors import BadFigure
from hookedcords.putting import (
    points_by_piece, put_together, put_upon, renumbered, straight_figure, turned_figure,
)


def straight(cords):
    """The straight figure."""
    need_cords(cords)
    return straight_figure(cords)


def pieces_of(cords, figure):
    """The pieces by their numbers, each the ascending tuple of its points."""
    need_cords(cords)
    need_figure(cords, figure)
    return points_by_piece(figure)


def are_pieces(cords, parted):
    """Whether parted is a tuple of tuples, none of them (), in which each point stands just once."""
    if type(parted) is not tuple:
        return False
    seen = set()
    for points in parted:
        if type(points) is not tuple or len(points) == 0:
            return False
        for point in points:
            if not is_between(point, 0, 2 * cords - 1) or point in seen:
                return False
            seen.add(point)
    return len(seen) == 2 * cords


def figure_of_pieces(cords, parted):
    """The figure with the pieces that parted tells, in any order."""
    need_cords(cords)
    if not are_pieces(cords, parted):
        raise BadFigure("pieces")
    labels = [0] * (2 * cords)
    for number, points in enumerate(parted):
        for point in points:
            labels[point] = number
    return renumbered(labels)


def kind_of(cords, points):
    """Whether the piece of these ascending points is through, upper or lower."""
    if points[-1] < cords:
        return "upper"
    if points[0] >= cords:
        return "lower"
    return "through"


def kinds_of(cords, figure):
    """For each piece "through", "upper" or "lower"."""
    need_cords(cords)
    need_figure(cords, figure)
    return tuple([kind_of(cords, points) for points in points_by_piece(figure)])


def rank_of(cords, figure):
    """The number of through pieces."""
    return kinds_of(cords, figure).count("through")


def hangs(cords, figure, point, far_point):
    """Whether the two points hang together."""
    need_cords(cords)
    need_figure(cords, figure)
    need_number(point, 0, 2 * cords - 1)
    need_number(far_point, 0, 2 * cords - 1)
    return figure[point] == figure[far_point]


def upon(cords, figure, other):
    """The figure upon the other one."""
    need_two_figures(cords, figure, other)
    return put_upon(cords, figure, other)


def left_over(cords, figure, other):
    """How many pieces are left over when the figure is put upon the other one."""
    need_two_figures(cords, figure, other)
    return put_together(cords, figure, other)[1]


def turned_over(cords, figure):
    """The figure with top and bottom exchanged."""
    need_cords(cords)
    need_figure(cords, figure)
    return turned_figure(cords, figure)


def mirrored(cords, figure):
    """The figure with the place P as CORDS - 1 - P."""
    need_cords(cords)
    need_figure(cords, figure)
    return renumbered(figure[:cords][::-1] + figure[cords:][::-1])
