"""The figures of a family in their order, their numbers, and how many there are of each kind."""

from hookedcords.checks import need_cords, need_family, need_family_figure, need_number
from hookedcords.families import FAMILIES
from hookedcords.faults import is_of_family, need_with_own_figure
from hookedcords.figures import rank_of
from hookedcords.sizes import family_size, need_few
from hookedcords.walks import figures_in


def figure_count(cords, family):
    """How many figures the family has."""
    need_cords(cords)
    need_family(family)
    return family_size(cords, family)


def figures_of(cords, family):
    """The ascending tuple of the family's figures."""
    need_cords(cords)
    need_family(family)
    need_few(cords, family)
    return tuple(figures_in(cords, family))


def figure_number(cords, family, figure):
    """How many figures of the family are less than the figure, which is one of them."""
    need_with_own_figure(cords, family, figure)
    return figures_of(cords, family).index(figure)


def figure_at(cords, family, number):
    """The figure of the family with this number."""
    need_number(number, 0, figure_count(cords, family) - 1)
    return figures_of(cords, family)[number]


def next_figure(cords, family, figure):
    """The first figure of the family that is greater than any figure, None if none is."""
    need_family_figure(cords, family, figure)
    for one in figures_of(cords, family):
        if one > figure:
            return one
    return None


def rank_counts(cords, family):
    """How many figures of the family have the rank 0, 1, .., CORDS."""
    ranks = [rank_of(cords, figure) for figure in figures_of(cords, family)]
    return tuple([ranks.count(rank) for rank in range(cords + 1)])


def piece_counts(cords, family):
    """How many figures of the family have 1, 2, .., 2 * CORDS pieces."""
    pieces = [max(figure) + 1 for figure in figures_of(cords, family)]
    return tuple([pieces.count(many) for many in range(1, 2 * cords + 1)])


def figures_of_rank(cords, family, number):
    """The ascending tuple of the figures of the family with this rank."""
    need_cords(cords)
    need_family(family)
    need_number(number, 0, cords)
    return tuple([figure for figure in figures_of(cords, family) if rank_of(cords, figure) == number])


def both_figures(cords, family, other):
    """The ascending tuple of the figures that both families have."""
    need_cords(cords)
    need_family(family)
    need_family(other)
    need_few(cords, family)
    need_few(cords, other)
    return tuple([figure for figure in figures_in(cords, family) if is_of_family(cords, other, figure)])


def family_of_both(cords, family, other):
    """The first family with the fewest words whose figures are just those of both, None if there is none."""
    figures = both_figures(cords, family, other)
    for _, one in sorted([(len(words), words) for words in FAMILIES]):
        if family_size(cords, one) == len(figures):
            # As many figures, and all of these among them: so they are the same.
            if all([is_of_family(cords, one, figure) for figure in figures]):
                return one
    return None
