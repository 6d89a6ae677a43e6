"""Figures put upon one another, turned over and mirrored: [10], [12], [14], [17]."""

import itertools
import unittest

from hookedcords.errors import BadFigure, BadNumber
from hookedcords.figures import (
    figure_of_pieces, hangs, kinds_of, left_over, mirrored, pieces_of, rank_of, straight, turned_over, upon,
)
from tests import brute


def pairs_of_figures():
    """All pairs of figures of one and two cords, all with some of three, drawn ones of four and five."""
    for cords in (1, 2):
        for figure, other in itertools.product(brute.all_figures(cords), repeat=2):
            yield cords, figure, other
    for figure, other in itertools.product(brute.all_figures(3), brute.some_figures(3, 30)):
        yield 3, figure, other
    for cords in (4, 5):
        for figure, other in zip(brute.some_figures(cords, 600), brute.some_figures(cords, 600, seed=8)):
            yield cords, figure, other


class Pieces(unittest.TestCase):
    def test_straight(self):
        self.assertEqual(straight(1), (0, 0))
        self.assertEqual(straight(5), (0, 1, 2, 3, 4, 0, 1, 2, 3, 4))

    def test_pieces_by_their_numbers(self):
        self.assertEqual(pieces_of(2, (0, 1, 1, 0)), ((0, 3), (1, 2)))
        self.assertEqual(pieces_of(1, (0, 1)), ((0,), (1,)))
        self.assertEqual(pieces_of(5, (0,) * 10), (tuple(range(10)),))
        self.assertEqual(pieces_of(5, tuple(range(10))), tuple((point,) for point in range(10)))
        for figure in brute.all_figures(3):
            self.assertEqual(pieces_of(3, figure), tuple(tuple(points) for points in brute.pieces(figure)))

    def test_each_parting_of_the_points_is_one_figure(self):
        for cords in (1, 2, 3):
            for figure in brute.all_figures(cords):
                told = pieces_of(cords, figure)
                self.assertEqual(figure_of_pieces(cords, told), figure)
                self.assertEqual(figure_of_pieces(cords, tuple(points[::-1] for points in told[::-1])), figure)

    def test_partings_that_are_none(self):
        wrong = [
            None, 5, "x", (), [(0, 1), (2, 3)], ([0, 1], (2, 3)), ((0, 1), (2, 3), ()), ((0, 1), (2,)),
            ((0, 1), (2, 3, 4)), ((0, 1), (2, 4)), ((0, 1), (2, 3), (0,)), ((0, 0, 1), (2, 3)), ((False, 1), (2, 3)),
            ((0, True), (2, 3)), ((-1, 1), (2, 3)), ((0, "1"), (2, 3)), ((0, None), (2, 3)), (0, 1, 2, 3),
            (((0, 1),), (2, 3)), ((0, 1), (2, 3), None), ((0, 1, 2, 3, 10 ** 999),),
        ]
        for parted in wrong:
            with self.assertRaises(BadFigure) as caught:
                figure_of_pieces(2, parted)
            self.assertEqual(caught.exception.place, "pieces", parted)

    def test_kinds_and_rank(self):
        self.assertEqual(kinds_of(2, (0, 0, 1, 1)), ("upper", "lower"))
        self.assertEqual(kinds_of(2, (0, 1, 0, 2)), ("through", "upper", "lower"))
        for cords in (1, 2, 3):
            for figure in brute.all_figures(cords):
                top, bottom = set(figure[:cords]), set(figure[cords:])
                told = tuple(
                    "through" if piece in top & bottom else "upper" if piece in top else "lower"
                    for piece in range(max(figure) + 1)
                )
                self.assertEqual(kinds_of(cords, figure), told)
                self.assertEqual(rank_of(cords, figure), len(top & bottom))

    def test_hanging_together(self):
        for figure in brute.all_figures(2):
            for point, far_point in itertools.product(range(4), repeat=2):
                self.assertIs(hangs(2, figure, point, far_point), figure[point] == figure[far_point])
        for wrong in (-1, 4, True, None, "0", (0,)):
            with self.assertRaises(BadNumber) as caught:
                hangs(2, (0, 1, 0, 1), wrong, 9)
            self.assertEqual(repr(caught.exception.value), repr(wrong))
            with self.assertRaises(BadNumber) as caught:
                hangs(2, (0, 1, 0, 1), 3, wrong)
            self.assertEqual(repr(caught.exception.value), repr(wrong))


class Upon(unittest.TestCase):
    def test_the_documents_example(self):
        self.assertEqual(upon(2, (0, 0, 1, 1), (0, 0, 1, 1)), (0, 0, 1, 1))
        self.assertEqual(left_over(2, (0, 0, 1, 1), (0, 0, 1, 1)), 1)

    def test_upon_by_a_search_along_the_points(self):
        for cords, figure, other in pairs_of_figures():
            told = (upon(cords, figure, other), left_over(cords, figure, other))
            self.assertEqual(told, brute.put(cords, figure, other))

    def test_the_order_of_three_does_not_matter(self):
        some = [(2, three) for three in itertools.product(brute.all_figures(2), repeat=3)]
        for cords in (3, 4, 5):
            some += [(cords, three) for three in zip(*[brute.some_figures(cords, 500, seed) for seed in (1, 2, 3)])]
        for cords, (one, two, three) in some:
            near, far = upon(cords, one, two), upon(cords, two, three)
            self.assertEqual(upon(cords, near, three), upon(cords, one, far))
            self.assertEqual(
                left_over(cords, one, two) + left_over(cords, near, three),
                left_over(cords, two, three) + left_over(cords, one, far),
            )

    def test_turned_over_and_mirrored(self):
        for cords, figure, other in pairs_of_figures():
            both, left = upon(cords, figure, other), left_over(cords, figure, other)
            over, other_over = turned_over(cords, figure), turned_over(cords, other)
            self.assertEqual(turned_over(cords, both), upon(cords, other_over, over))
            self.assertEqual(left_over(cords, other_over, over), left)
            glass, other_glass = mirrored(cords, figure), mirrored(cords, other)
            self.assertEqual(mirrored(cords, both), upon(cords, glass, other_glass))
            self.assertEqual(left_over(cords, glass, other_glass), left)
            self.assertEqual(upon(cords, upon(cords, figure, over), figure), figure)

    def test_turned_over_and_mirrored_by_points(self):
        for cords in (1, 2, 3):
            for figure in brute.all_figures(cords):
                over, glass = turned_over(cords, figure), mirrored(cords, figure)
                self.assertEqual((turned_over(cords, over), mirrored(cords, glass)), (figure, figure))
                for near, far in itertools.product(range(2 * cords), repeat=2):
                    moved = [(point + cords) % (2 * cords) for point in (near, far)]
                    self.assertIs(hangs(cords, over, *moved), hangs(cords, figure, near, far))
                    moved = [point // cords * cords + cords - 1 - point % cords for point in (near, far)]
                    self.assertIs(hangs(cords, glass, *moved), hangs(cords, figure, near, far))

    def test_ranks_and_straight(self):
        for cords, figure, other in pairs_of_figures():
            rank = rank_of(cords, upon(cords, figure, other))
            self.assertLessEqual(rank, min(rank_of(cords, figure), rank_of(cords, other)))
            for one, two in [(straight(cords), figure), (figure, straight(cords))]:
                self.assertEqual((upon(cords, one, two), left_over(cords, one, two)), (figure, 0))
