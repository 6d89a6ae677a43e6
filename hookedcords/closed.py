"""Closed figures and rows: the rings that come when each top point is hung to its bottom point."""

from hookedcords.checks import need_cords, need_figure, need_two_figures
from hookedcords.numbered import figures_of
from hookedcords.powers import need_power, power_and_leftovers
from hookedcords.putting import merged, points_by_piece, put_together, renumbered
from hookedcords.rows import figure_of, leftovers_of


def closed_places(cords, figure):
    """The rings as a tuple: for each place the number of its ring, numbered by their first places."""
    labels = list(figure)
    for place in range(cords):
        labels = merged(labels, labels[place], labels[cords + place])
    return renumbered(labels[:cords])


def many_rings(cords, figure):
    """How many rings the figure has."""
    return max(closed_places(cords, figure)) + 1


def rings(cords, figure):
    """How many rings the figure has."""
    need_cords(cords)
    need_figure(cords, figure)
    return many_rings(cords, figure)


def ring_pieces(cords, figure):
    """The rings by their first places, each the ascending tuple of its places."""
    need_cords(cords)
    need_figure(cords, figure)
    return points_by_piece(closed_places(cords, figure))


def row_rings(cords, row):
    """How many rings a row has: those of its figure and its leftovers."""
    return many_rings(cords, figure_of(cords, row)) + leftovers_of(cords, row)


def rings_of_both(cords, figure, other):
    """The rings of figure upon other and what is left over, together."""
    need_two_figures(cords, figure, other)
    both, left = put_together(cords, figure, other)
    return many_rings(cords, both) + left


def power_rings(cords, figure, many):
    """The rings of the power with this number and its leftovers, together."""
    need_power(cords, figure, many)
    one, left = power_and_leftovers(cords, figure, many)
    return many_rings(cords, one) + left


def ring_count(cords, family):
    """How many figures of the family have 0 rings, 1 ring and so on, up to the most that one of them has."""
    counts = [many_rings(cords, figure) for figure in figures_of(cords, family)]
    return tuple([counts.count(many) for many in range(max(counts) + 1)])


def heaviest_in(cords, family):
    """The ascending tuple of the figures of the family with the most rings."""
    figures = figures_of(cords, family)
    counts = [many_rings(cords, figure) for figure in figures]
    most = max(counts)
    return tuple([figure for figure, many in zip(figures, counts) if many == most])
