"""Closed figures: [42], by a search over points, and the order of refusals there."""

import itertools
import unittest

from hookedcords.closed import (
    heaviest_in, power_rings, ring_count, ring_pieces, rings, rings_of_both, row_rings,
)
from hookedcords.errors import BadCords, BadFamily, BadFigure, BadNumber, BadRow, TooGreat
from hookedcords.powers import comes_round
from tests import brute
from tests.brute import figures_of, told_of

MOST = 10 ** 9


def rings_by_hand(cords, figure):
    """The rings, as ascending tuples of places, by a search over points."""
    edges = [(place, cords + place) for place in range(cords)]
    edges += [pair for pair in itertools.combinations(range(2 * cords), 2) if figure[pair[0]] == figure[pair[1]]]
    lots = brute.components(range(2 * cords), edges)
    return tuple(sorted(tuple(sorted({point % cords for point in lot})) for lot in lots))


def rings_of_row(cords, row):
    """The rings of a row hung round: all points between its deeds, the last deed's bottom points being the top ones."""
    many = len(row)
    nodes = [(level, place) for level in range(max(many, 1)) for place in range(cords)]
    edges = []
    for level, deed in enumerate(row):
        shape = brute.deed_figure(cords, deed)
        points = [(level, place) for place in range(cords)] + [((level + 1) % many, place) for place in range(cords)]
        edges += [
            (points[one], points[two]) for one, two in itertools.combinations(range(2 * cords), 2)
            if shape[one] == shape[two]
        ]
    return len(brute.components(nodes, edges))


class Rings(unittest.TestCase):
    def test_rings_by_points(self):
        for cords, figure in brute.many_figures():
            told = rings_by_hand(cords, figure)
            self.assertEqual(rings(cords, figure), len(told))
            self.assertEqual(ring_pieces(cords, figure), told)
            mirrored = brute.by_labels(figure[:cords][::-1] + figure[cords:][::-1])
            self.assertEqual(rings(cords, brute.over(cords, figure)), len(told))
            self.assertEqual(rings(cords, mirrored), len(told))

    def test_rings_of_two_figures_both_ways(self):
        pairs = list(itertools.product(brute.all_figures(2), repeat=2))
        for cords in (3, 4, 5):
            figures = brute.some_figures(cords, 150)
            pairs += list(zip(figures, figures[1:]))
        for one, two in pairs:
            cords = len(one) // 2
            whole, left = brute.put(cords, one, two)
            self.assertEqual(rings_of_both(cords, one, two), len(rings_by_hand(cords, whole)) + left)
            self.assertEqual(rings_of_both(cords, one, two), rings_of_both(cords, two, one))

    def test_rings_of_rows_by_all_points_between(self):
        for cords in range(1, 6):
            for row in brute.some_rows(cords, 60, 8) + [((("cut", 0),) * 40), ()]:
                self.assertEqual(row_rings(cords, row), rings_of_row(cords, row), (cords, row))
                self.assertEqual(row_rings(cords, row), row_rings(cords, row[1:] + row[:1]))

    def test_rings_of_powers(self):
        for cords, figure in list(brute.many_figures())[::3]:
            whole, left = tuple(range(cords)) * 2, 0
            told = []
            for many in range(16):
                told.append(len(rings_by_hand(cords, whole)) + left)
                self.assertEqual(power_rings(cords, figure, many), told[-1])
                whole, more = brute.put(cords, whole, figure)
                left += more
            first, step = comes_round(cords, figure)
            start = max(first, 1)
            growth = told[start + step] - told[start]
            self.assertEqual(told[start + 1 + step] - told[start + 1], growth)
            rounds = (MOST - start) // step
            self.assertEqual(power_rings(cords, figure, start + rounds * step), told[start] + rounds * growth)
        self.assertEqual(power_rings(2, (0, 0, 1, 1), MOST), MOST)
        self.assertEqual(power_rings(2, (0, 1, 1, 0), MOST), 2)
        self.assertEqual(power_rings(2, (0, 1, 1, 0), MOST - 1), 1)

    def test_families(self):
        for cords, family in list(brute.small_families(203)) + [(4, ("cut", "hook")), (5, ("hook",))]:
            counts = [len(rings_by_hand(cords, figure)) for figure in figures_of(cords, family)]
            self.assertEqual(ring_count(cords, family), tuple(counts.count(many) for many in range(max(counts) + 1)))
            heaviest = tuple(one for one, many in zip(figures_of(cords, family), counts) if many == max(counts))
            self.assertEqual(heaviest_in(cords, family), heaviest)

    def test_the_documents_examples(self):
        self.assertEqual(rings(3, (0, 1, 2, 0, 1, 2)), 3)
        self.assertEqual(ring_count(2, ("hook", "swap")), (0, 2, 1))
        self.assertEqual(ring_count(1, ("hook",)), (0, 1))


class Refusals(unittest.TestCase):
    def test_wrong_arguments(self):
        for call in (rings, ring_pieces):
            self.assertEqual(told_of(call, 2, (0, 0, 2, 0)), (BadFigure, (2,)))
            self.assertEqual(told_of(call, 0, None), (BadCords, (0,)))
        self.assertEqual(told_of(row_rings, 2, (("cut", 0), ("hook", 1))), (BadRow, (1,)))
        self.assertEqual(told_of(row_rings, 2, (("cut", 0),) * 41), (BadRow, (None,)))
        self.assertEqual(told_of(row_rings, 6, None), (BadCords, (6,)))
        self.assertEqual(told_of(rings_of_both, 2, (0, 0, 1), None), (BadFigure, (None,)))
        self.assertEqual(told_of(rings_of_both, 2, (0, 0, 1, 1), (0, 2, 0, 0)), (BadFigure, (1,)))
        for wrong in (-1, MOST + 1, True, None, "0", (0,)):
            self.assertEqual(told_of(power_rings, 2, (0, 0, 1, 1), wrong), (BadNumber, (wrong,)))
            self.assertEqual(told_of(power_rings, 2, (0, 0, 1, 3), wrong), (BadFigure, (3,)))

    def test_too_great(self):
        for call in (ring_count, heaviest_in):
            for family in (brute.WORDS, ("cut", "join"), ("hook", "join", "swap")):
                self.assertEqual(told_of(call, 5, family), (TooGreat, (5000,)))
            self.assertEqual(told_of(call, 5, ("cut", "cut")), (BadFamily, (1,)))
            self.assertEqual(told_of(call, 7, ("cut", "cut")), (BadCords, (7,)))
