"""Fewest deeds: lengths of figures, their shortest rows, and how far it is between figures."""

from hookedcords.checks import (
    need_cords, need_family, need_family_figure, need_family_row, need_figure, need_from, need_number,
)
from hookedcords.errors import BadFigure
from hookedcords.faults import need_with_own_figure
from hookedcords.putting import figure_of_row, put_upon, straight_figure
from hookedcords.sizes import need_few
from hookedcords.walks import row_to, shapes_of, walk


class Ladder:
    """All figures of a family, by the fewest deeds that they need."""

    def __init__(self, cords, family):
        need_cords(cords)
        need_family(family)
        need_few(cords, family)
        layers, before = walk(cords, family, straight_figure(cords))
        self.cords = cords
        self.family = family
        self._layers = layers
        self._before = before
        self._lengths = {figure: length for length, layer in enumerate(layers) for figure in layer}

    def _need_known(self, figure):
        """BadFigure of what is no figure, then of a figure that isn't one of the family."""
        need_figure(self.cords, figure)
        if figure not in self._lengths:
            raise BadFigure("family")

    def _ways_to(self, figure):
        """For each figure on a shortest way to the figure: how many such ways go on from there."""
        ways = {figure: 1}
        layer = [figure]
        while layer:
            nearer = []
            for far in layer:
                for near, _ in self._before[far]:
                    if near not in ways:
                        ways[near] = 0
                        nearer.append(near)
                    ways[near] = ways[near] + ways[far]
            layer = nearer
        return ways

    def _steps_on(self, ways, here):
        """The steps on shortest ways from here: the deeds, ascending, each as a pair with the figure it brings."""
        steps = []
        for deed, shape in shapes_of(self.cords, self.family):
            below = put_upon(self.cords, here, shape)
            if below in ways and self._lengths[below] == self._lengths[here] + 1:
                steps.append((deed, below))
        return steps

    def length_of(self, figure):
        """The length of the figure."""
        self._need_known(figure)
        return self._lengths[figure]

    def least_row(self, figure):
        """The least of the shortest rows of the figure."""
        self._need_known(figure)
        return row_to(self._before, figure)

    def many_shortest(self, figure):
        """How many shortest rows the figure has."""
        self._need_known(figure)
        return self._ways_to(figure)[straight_figure(self.cords)]

    def shortest_at(self, figure, number):
        """The shortest row of the figure with so many of its shortest rows ahead of it."""
        self._need_known(figure)
        ways = self._ways_to(figure)
        here = straight_figure(self.cords)
        need_number(number, 0, ways[here] - 1)
        row = []
        ahead = 0
        while here != figure:
            for deed, below in self._steps_on(ways, here):
                if number < ahead + ways[below]:
                    row.append(deed)
                    here = below
                    break
                ahead = ahead + ways[below]
        return tuple(row)

    def number_of(self, row):
        """How many shortest rows of its figure are ahead of the row, None if it isn't shortest."""
        need_family_row(self.cords, self.family, row)
        figure = figure_of_row(self.cords, row)
        if len(row) != self._lengths[figure]:
            return None
        ways = self._ways_to(figure)
        here = straight_figure(self.cords)
        ahead = 0
        for done in row:
            for deed, below in self._steps_on(ways, here):
                if deed == done:
                    here = below
                    break
                ahead = ahead + ways[below]
        return ahead

    def of_length(self, number):
        """The ascending tuple of the figures of this length."""
        need_from(number, 0)
        if number >= len(self._layers):
            return ()
        return tuple(sorted(self._layers[number]))

    def by_length(self):
        """How many figures have the length 0, 1 and so on to the greatest."""
        return tuple([len(layer) for layer in self._layers])

    def farthest(self):
        """The ascending tuple of the figures of the greatest length."""
        return tuple(sorted(self._layers[-1]))


def ladder_for(cords, family, figure):
    """The ladder of the family, behind the errors of the figure."""
    need_with_own_figure(cords, family, figure)
    return Ladder(cords, family)


def fewest(cords, family, figure):
    """The length of the figure in the family."""
    return ladder_for(cords, family, figure).length_of(figure)


def least_row(cords, family, figure):
    """The least of the shortest rows of the figure in the family."""
    return ladder_for(cords, family, figure).least_row(figure)


def is_shortest(cords, family, row):
    """Whether the row of the family's deeds is a shortest one of its figure."""
    need_cords(cords)
    need_family(family)
    need_family_row(cords, family, row)
    ladder = Ladder(cords, family)
    return ladder.length_of(figure_of_row(cords, row)) == len(row)


def way(cords, family, figure, other):
    """The least of the shortest rows by which the family leads from the figure to the other one, or None."""
    need_family_figure(cords, family, figure)
    need_figure(cords, other)
    before = walk(cords, family, figure)[1]
    if other not in before:
        return None
    return row_to(before, other)


def how_far(cords, family, figure, other):
    """By how many deeds the family leads from the figure to the other one at the fewest, or None."""
    row = way(cords, family, figure, other)
    if row is None:
        return None
    return len(row)


def by_distance(cords, family, figure):
    """How many figures are 0, 1 and so on deeds from the figure, to the farthest that are reached."""
    need_family_figure(cords, family, figure)
    layers = walk(cords, family, figure)[0]
    return tuple([len(layer) for layer in layers])
