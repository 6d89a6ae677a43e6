"""Walks from figure to figure, one deed after the other."""

from hookedcords.errors import TooGreat
from hookedcords.putting import deeds_with, figure_of_deed, put_upon, straight_figure
from hookedcords.sizes import MOST_FIGURES


def shapes_of(cords, words):
    """The ascending deeds with these words, each as a pair with its figure."""
    return [(deed, figure_of_deed(cords, deed)) for deed in deeds_with(cords, words)]


def next_layer(cords, shapes, layer, before):
    """What deeds put below the figures of the layer bring that isn't in before, with the steps to it.

    A dict: for each new figure the list of pairs of a figure of the layer and the deed. The figures
    come in the order of their least rows if those of the layer do and the deeds ascend.
    """
    further = {}
    for figure in layer:
        for deed, shape in shapes:
            below = put_upon(cords, figure, shape)
            if below not in before:
                further.setdefault(below, []).append((figure, deed))
    return further


def walk(cords, words, start, end=None):
    """The pair (LAYERS, BEFORE) of all figures that deeds with these words put below start bring.

    LAYERS: a list of the lists of the figures 0, 1, 2 and so on deeds away, in the order of their
    least rows. BEFORE: a dict with the list of the last steps of the shortest rows to each figure,
    the step of the least row first; a step is a pair of the figure ahead and the deed.
    Where an end is told the walk goes no further than to it, and LAYERS lacks the layer of the end.
    TooGreat if there are too many figures.
    """
    shapes = shapes_of(cords, words)
    before = {start: []}
    layers = []
    layer = [start]
    while layer and end not in before:
        layers.append(layer)
        further = next_layer(cords, shapes, layer, before)
        for figure, steps in further.items():
            before[figure] = steps
        if len(before) > MOST_FIGURES:
            raise TooGreat(MOST_FIGURES)
        layer = list(further)
    return layers, before


def row_to(before, figure):
    """The least of the shortest rows by which a walk comes to the figure."""
    row = []
    here = figure
    while before[here]:
        here, deed = before[here][0]
        row.append(deed)
    return tuple(row[::-1])


def least_row_back(before, ends):
    """The least tuple of the deeds that a walk did, the last one first, to one of the ends, which are equally far."""
    row = []
    steps = [step for end in ends for step in before[end]]
    while steps:
        least = min([deed for _, deed in steps])
        nears = sorted({near for near, deed in steps if deed == least})
        row.append(least)
        steps = [step for near in nears for step in before[near]]
    return tuple(row)


def figures_in(cords, family):
    """The ascending list of the figures of a family that isn't too great."""
    before = walk(cords, family, straight_figure(cords))[1]
    return sorted(before)
