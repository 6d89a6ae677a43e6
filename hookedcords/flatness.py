"""Flat figures and flat halves, and figures made flat by exchanges above and below."""

from itertools import combinations

from hookedcords.checks import is_figure, is_row, need_cords, need_figure
from hookedcords.errors import BadPaper, TooGreat
from hookedcords.faults import first_crossing, is_crossing
from hookedcords.halves import all_halves, need_half
from hookedcords.putting import figure_of_row, going_round, put_upon, renumbered
from hookedcords.sizes import MOST_FIGURES
from hookedcords.walks import figures_in, least_row_back, walk

SWAPS = ("swap",)
# These are all flat figures.
FLAT_FAMILY = ("cut", "join")
MOST_CORDS_SEARCHED = 4


def lies_flat(cords, figure):
    """Whether no two pieces of the figure cross."""
    return first_crossing(going_round(cords, figure)) is None


def is_flat(cords, figure):
    """Whether the figure is flat."""
    need_cords(cords)
    need_figure(cords, figure)
    return lies_flat(cords, figure)


def crossing_pairs(cords, figure):
    """The ascending tuple of the pairs of numbers of pieces that cross, the lesser one first."""
    need_cords(cords)
    need_figure(cords, figure)
    ring = going_round(cords, figure)
    found = set()
    for places in combinations(range(2 * cords), 4):
        if is_crossing(ring, places):
            one, other = ring[places[0]], ring[places[1]]
            found.add((min(one, other), max(one, other)))
    return tuple(sorted(found))


def is_covered(pieces, place):
    """Whether the place lies between two places of another piece."""
    ahead = [piece for piece in pieces[:place] if piece != pieces[place]]
    return any([piece in pieces[place + 1:] for piece in ahead])


def half_lies_flat(half):
    """Whether the half is flat."""
    pieces, open_pieces = half
    if first_crossing(pieces) is not None:
        return False
    return not any([piece in open_pieces and is_covered(pieces, place) for place, piece in enumerate(pieces)])


def is_flat_half(cords, half):
    """Whether the half is flat."""
    return half_lies_flat(need_half(cords, half))


def flat_halves(cords, number):
    """The ascending tuple of all flat halves with so many open pieces."""
    return tuple([half for half in all_halves(cords, number) if half_lies_flat(half)])


def flat_half_count(cords, number):
    """How many flat halves with so many open pieces there are."""
    return len(flat_halves(cords, number))


def flat_by_rank(cords):
    """How many flat figures there are of each rank from 0 to CORDS."""
    need_cords(cords)
    counts = [flat_half_count(cords, rank) for rank in range(cords + 1)]
    return tuple([many * many for many in counts])


def exchanged(figure, point):
    """The figure with a point and the next one, both top or both bottom points, exchanged."""
    labels = list(figure)
    labels[point], labels[point + 1] = labels[point + 1], labels[point]
    return renumbered(labels)


def exchange_points(cords):
    """The first points of all neighbours on one side: what a swap above or below exchanges."""
    return list(range(cords - 1)) + list(range(cords, 2 * cords - 1))


def further_layer(cords, layer, known):
    """The figures one exchange from those of the layer that aren't known; they are known then."""
    further = []
    for figure in layer:
        for point in exchange_points(cords):
            near = exchanged(figure, point)
            if near not in known:
                known[near] = True
                further.append(near)
    return further


def layers_to_flat(cords, figure):
    """The lists of the figures 0, 1 and so on exchanges away, up to the first list that has flat ones."""
    layers = [[figure]]
    known = {figure: True}
    while not any([lies_flat(cords, one) for one in layers[-1]]):
        layers.append(further_layer(cords, layers[-1], known))
    return layers


def exchanges_left(cords, layers):
    """A dict: for each figure on a shortest way to a flat one how many exchanges are left from there."""
    left = {one: 0 for one in layers[-1] if lies_flat(cords, one)}
    for many, layer in enumerate(layers[-2::-1]):
        for one in layer:
            nears = [exchanged(one, point) for point in exchange_points(cords)]
            if any([left.get(near, -1) == many for near in nears]):
                left[one] = many + 1
    return left


def exchanges_of(cords, figure):
    """The exchanges of the figure."""
    need_cords(cords)
    need_figure(cords, figure)
    return len(layers_to_flat(cords, figure)) - 1


def least_far_row(cords, figure, many):
    """The least tuple of so many swaps below some flat figure that make the figure, None if there is none."""
    layers, before = walk(cords, SWAPS, figure)
    ends = [one for layer in layers[many:many + 1] for one in layer if lies_flat(cords, one)]
    if not ends:
        return None
    return least_row_back(before, ends)


def flattening(cords, figure):
    """The flattening with the fewest deeds that has the first row, and of those the first far row."""
    need_cords(cords)
    need_figure(cords, figure)
    left = exchanges_left(cords, layers_to_flat(cords, figure))
    row = []
    here = figure
    far_row = least_far_row(cords, here, left[here])
    # A row goes on only where it must, as the shorter of two that begin alike is the first.
    while far_row is None:
        nears = [exchanged(here, place) for place in range(cords - 1)]
        place = [left.get(near) == left[here] - 1 for near in nears].index(True)
        row.append(("swap", place))
        here = nears[place]
        far_row = least_far_row(cords, here, left[here])
    flat = put_upon(cords, here, figure_of_row(cords, far_row[::-1]))
    return tuple(row), flat, far_row


def is_swap_row(cords, value):
    """Whether value, of any kind, is a row of swaps."""
    return is_row(cords, value) and all([deed[0] == "swap" for deed in value])


def check_flattening(cords, figure, paper):
    """How many deeds the flattening, which need not have the fewest, has together."""
    need_cords(cords)
    need_figure(cords, figure)
    if type(paper) is not tuple or len(paper) != 3:
        raise BadPaper("form")
    row, flat, far_row = paper
    if not is_swap_row(cords, row):
        raise BadPaper("row")
    if not is_figure(cords, flat) or not lies_flat(cords, flat):
        raise BadPaper("flat")
    if not is_swap_row(cords, far_row):
        raise BadPaper("far row")
    above = put_upon(cords, figure_of_row(cords, row), flat)
    if put_upon(cords, above, figure_of_row(cords, far_row)) != figure:
        raise BadPaper("figure")
    return len(row) + len(far_row)


def layers_from_flat(cords):
    """The lists of all figures with 0 exchanges, 1 and so on, up to the most; TooGreat of 5 cords."""
    need_cords(cords)
    if cords > MOST_CORDS_SEARCHED:
        raise TooGreat(MOST_FIGURES)
    layer = figures_in(cords, FLAT_FAMILY)
    known = {figure: True for figure in layer}
    layers = []
    while layer:
        layers.append(layer)
        layer = further_layer(cords, layer, known)
    return layers


def by_exchanges(cords):
    """How many of all figures have 0 exchanges, 1 and so on, up to the most."""
    return tuple([len(layer) for layer in layers_from_flat(cords)])


def most_crooked(cords):
    """The ascending tuple of the figures with the most exchanges."""
    return tuple(sorted(layers_from_flat(cords)[-1]))
