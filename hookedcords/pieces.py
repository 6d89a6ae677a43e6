"""Figures compared and set side by side: finer ones, both and either of two, parts."""

from hookedcords.checks import MOST_CORDS, is_between, need_cords, need_figure, need_two_figures
from hookedcords.errors import BadCords
from hookedcords.putting import joined_labels, points_by_piece, renumbered

# The number of ways of parting 0, 1, .. 10 things: five cords have ten points.
WAYS_OF_PARTING = (1, 1, 2, 5, 15, 52, 203, 877, 4140, 21147, 115975)


def is_finer(cords, figure, other):
    """Whether each piece of figure lies within a piece of other."""
    return both_of(cords, figure, other) == figure


def both_of(cords, figure, other):
    """The figure by which two points hang together if they do by the one and by the other."""
    need_two_figures(cords, figure, other)
    return renumbered(list(zip(figure, other)))


def either_of(cords, figure, other):
    """The finest figure than which both are finer."""
    need_two_figures(cords, figure, other)
    return joined_labels(figure, other)


def finer_count(cords, figure):
    """How many figures are finer than the figure, itself among them."""
    need_cords(cords)
    need_figure(cords, figure)
    many = 1
    for points in points_by_piece(figure):
        many = many * WAYS_OF_PARTING[len(points)]
    return many


def coarser_count(cords, figure):
    """Than how many figures the figure is finer, itself among them."""
    need_cords(cords)
    need_figure(cords, figure)
    return WAYS_OF_PARTING[max(figure) + 1]


def beside(cords, figure, far_cords, other):
    """The figure of cords + far_cords cords in which both stand beside one another."""
    need_cords(cords)
    need_figure(cords, figure)
    if not is_between(far_cords, 1, MOST_CORDS - cords):
        raise BadCords(far_cords)
    need_figure(far_cords, other)
    near = list(figure)
    far = [max(figure) + 1 + piece for piece in other]
    return renumbered(near[:cords] + far[:far_cords] + near[cords:] + far[far_cords:])


def is_apart(cords, figure, place):
    """Whether no piece has both a point at a place below place and one at place or above."""
    near = figure[:place] + figure[cords:cords + place]
    far = figure[place:cords] + figure[cords + place:]
    return not any([piece in far for piece in near])


def apart_at(cords, figure):
    """The ascending tuple of the places at which the figure is apart."""
    need_cords(cords)
    need_figure(cords, figure)
    return tuple([place for place in range(1, cords) if is_apart(cords, figure, place)])


def parts_of(cords, figure):
    """The parts of the figure: triples of the first place, the number of places and the part's figure."""
    places = list(apart_at(cords, figure))
    parts = []
    for first, end in zip([0] + places, places + [cords]):
        labels = figure[first:end] + figure[cords + first:cords + end]
        parts.append((first, end - first, renumbered(labels)))
    return tuple(parts)
