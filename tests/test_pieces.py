"""Figures beside one another and finer figures: [18], [20]."""

import itertools
import unittest

from hookedcords.errors import BadCords, BadFigure
from hookedcords.figures import left_over, upon
from hookedcords.pieces import (
    apart_at, beside, both_of, coarser_count, either_of, finer_count, is_finer, parts_of,
)
from tests import brute


def lies_within(figure, other):
    """Whether each piece of the one lies in a piece of the other one, by pieces as sets."""
    far = [set(piece) for piece in brute.pieces(other)]
    return all(any(set(piece) <= one for one in far) for piece in brute.pieces(figure))


def together(figure):
    points = range(len(figure))
    return {pair for pair in itertools.product(points, repeat=2) if figure[pair[0]] == figure[pair[1]]}


class Finer(unittest.TestCase):
    def test_finer_by_the_pieces(self):
        for cords in (1, 2):
            for figure, other in itertools.product(brute.all_figures(cords), repeat=2):
                self.assertIs(is_finer(cords, figure, other), lies_within(figure, other))
        for cords in (3, 4, 5):
            for figure, other in zip(brute.some_figures(cords, 300), brute.some_figures(cords, 300, seed=4)):
                self.assertIs(is_finer(cords, figure, other), lies_within(figure, other))
                self.assertIs(is_finer(cords, figure, both_of(cords, figure, other)), both_of(
                    cords, figure, other) == figure)

    def test_both_and_either(self):
        for figure, other in itertools.product(brute.all_figures(2), repeat=2):
            both, either = both_of(2, figure, other), either_of(2, figure, other)
            self.assertEqual(together(both), together(figure) & together(other))
            for one in brute.all_figures(2):
                finer = lies_within(one, figure) and lies_within(one, other)
                self.assertIs(is_finer(2, one, both), finer)
                coarser = lies_within(figure, one) and lies_within(other, one)
                self.assertIs(is_finer(2, either, one), coarser)

    def test_either_of_many_pieces(self):
        for cords in (3, 4, 5):
            for figure, other in zip(brute.some_figures(cords, 400), brute.some_figures(cords, 400, seed=5)):
                edges = [pair for one in (figure, other) for pair in together(one)]
                lots = brute.components(range(2 * cords), edges)
                self.assertEqual(either_of(cords, figure, other), brute.figure_by_lots(range(2 * cords), lots))
                self.assertEqual(
                    together(both_of(cords, figure, other)), together(figure) & together(other))

    def test_finer_figures_put_upon_finer_ones(self):
        for cords in (2, 3, 4):
            drawn = [brute.some_figures(cords, 300, seed) for seed in (11, 12, 13, 14)]
            for one, two, three, four in zip(*drawn):
                coarse, far_coarse = either_of(cords, one, three), either_of(cords, two, four)
                self.assertTrue(is_finer(cords, upon(cords, one, two), upon(cords, coarse, far_coarse)))

    def test_counts_by_going_through_all(self):
        for cords in (1, 2, 3):
            every = brute.all_figures(cords)
            for figure in every:
                finer = sum(lies_within(one, figure) for one in every)
                coarser = sum(lies_within(figure, one) for one in every)
                self.assertEqual((finer_count(cords, figure), coarser_count(cords, figure)), (finer, coarser))

    def test_counts_of_one_piece_and_of_most_pieces(self):
        partings = [len(brute.growth_strings(many)) for many in range(11)]
        for cords in range(1, 6):
            one, most = (0,) * (2 * cords), tuple(range(2 * cords))
            self.assertEqual((finer_count(cords, one), coarser_count(cords, one)), (partings[2 * cords], 1))
            self.assertEqual((finer_count(cords, most), coarser_count(cords, most)), (1, partings[2 * cords]))
        for many in range(1, 11):
            figure = tuple(range(many)) + (many - 1,) * (10 - many)
            self.assertEqual(finer_count(5, figure), partings[11 - many])
            self.assertEqual(coarser_count(5, figure), partings[many])


class Beside(unittest.TestCase):
    def test_beside_by_points(self):
        for figure in brute.all_figures(2):
            for far_cords in (1, 2, 3):
                for other in brute.some_figures(far_cords, 6):
                    cords = 2 + far_cords
                    labels = [("near", figure[place]) for place in range(2)]
                    labels += [("far", other[place]) for place in range(far_cords)]
                    labels += [("near", figure[2 + place]) for place in range(2)]
                    labels += [("far", other[far_cords + place]) for place in range(far_cords)]
                    told = beside(2, figure, far_cords, other)
                    self.assertEqual(told, brute.by_labels(labels))
                    self.assertIn(2, apart_at(cords, told))

    def test_how_many_cords_may_stand_beside(self):
        for cords in range(1, 6):
            figure = tuple(range(cords)) * 2
            for far_cords in range(1, 6):
                other = tuple(range(far_cords)) * 2
                if cords + far_cords <= 5:
                    self.assertEqual(beside(cords, figure, far_cords, other), tuple(range(cords + far_cords)) * 2)
                else:
                    with self.assertRaises(BadCords) as caught:
                        beside(cords, figure, far_cords, None)
                    self.assertEqual(caught.exception.value, far_cords)
            for wrong in (0, -1, 6, True, None, "1", (1,)):
                with self.assertRaises(BadCords) as caught:
                    beside(cords, figure, wrong, None)
                self.assertEqual(repr(caught.exception.value), repr(wrong))

    def test_what_is_asked_first(self):
        with self.assertRaises(BadFigure) as caught:
            beside(1, (1, 0), 9, None)
        self.assertEqual(caught.exception.place, 0)
        with self.assertRaises(BadFigure) as caught:
            beside(1, (0, 0), 2, (0, 0, 0, 2))
        self.assertEqual(caught.exception.place, 3)
        with self.assertRaises(BadFigure) as caught:
            beside(1, (0, 0), 2, (0, 0))
        self.assertIsNone(caught.exception.place)

    def test_the_documents_example(self):
        self.assertEqual(parts_of(3, (0, 1, 1, 0, 2, 3)), ((0, 1, (0, 0)), (1, 2, (0, 0, 1, 2))))

    def test_parts_beside_one_another_are_the_figure(self):
        for cords in (1, 2, 3, 4, 5):
            some = brute.all_figures(cords) if cords <= 3 else brute.some_figures(cords, 400)
            for figure in some + [tuple(range(cords)) * 2]:
                parts = parts_of(cords, figure)
                first, many, whole = parts[0]
                self.assertEqual(first, 0)
                for at, more, one in parts[1:]:
                    self.assertEqual(at, many)
                    whole = beside(many, whole, more, one)
                    many += more
                self.assertEqual((many, whole), (cords, figure))
                self.assertEqual(tuple(part[0] for part in parts[1:]), apart_at(cords, figure))
                for _, more, one in parts:
                    self.assertEqual(apart_at(more, one), ())

    def test_apart_by_points(self):
        for figure in brute.all_figures(3):
            told = []
            for place in (1, 2):
                near = {figure[point] for point in range(6) if point % 3 < place}
                far = {figure[point] for point in range(6) if point % 3 >= place}
                if not near & far:
                    told.append(place)
            self.assertEqual(apart_at(3, figure), tuple(told))

    def test_upon_and_beside(self):
        for cords, far_cords in [(1, 1), (1, 2), (2, 1), (2, 2), (1, 4), (3, 2)]:
            near = [brute.some_figures(cords, 60, seed) for seed in (1, 2)]
            far = [brute.some_figures(far_cords, 60, seed) for seed in (3, 4)]
            for one, two, three, four in zip(*near, *far):
                above = beside(cords, one, far_cords, three)
                below = beside(cords, two, far_cords, four)
                whole = cords + far_cords
                apart = beside(cords, upon(cords, one, two), far_cords, upon(far_cords, three, four))
                self.assertEqual(upon(whole, above, below), apart)
                left = left_over(cords, one, two) + left_over(far_cords, three, four)
                self.assertEqual(left_over(whole, above, below), left)
