"""Lengths by looks, doubling and halving: [25], [26]."""

import unittest

from hookedcords.errors import BadCords, BadFamily, BadFigure
from hookedcords.lengths import doubled, greatest_by_looks, halved, length_by_looks
from tests import brute
from tests.brute import told_of

LOOKS = [("cut",), ("cut", "join"), ("cut", "swap"), ("hook",), ("join",), ("swap",)]
UNTOLD = [("cut", "hook", "join"), ("cut", "hook", "join", "swap"), ("cut", "join", "swap")]


def flat_figures(cords):
    return [figure for figure in brute.all_figures(cords) if brute.is_flat(cords, figure)]


class Lengths(unittest.TestCase):
    def test_lengths_as_by_going_through_all(self):
        for cords in range(1, 6):
            for family in LOOKS:
                lengths = brute.closure(cords, family)
                step = max(1, len(lengths) // 600)
                for figure in list(lengths)[::step]:
                    self.assertEqual(length_by_looks(cords, family, figure), lengths[figure], (family, figure))

    def test_greatest_lengths_as_by_going_through_all(self):
        for cords in range(1, 6):
            for family in brute.FAMILIES:
                if family not in UNTOLD:
                    greatest = max(brute.closure(cords, family).values())
                    self.assertEqual(greatest_by_looks(cords, family), greatest, (cords, family))

    def test_other_families(self):
        for cords in (1, 3, 5):
            for family in brute.FAMILIES:
                if family in UNTOLD:
                    self.assertEqual(told_of(greatest_by_looks, cords, family), (BadFamily, ("looks",)))
                if family not in LOOKS:
                    for figure in (None, (0,) * (2 * cords), (5,), (True,) * (2 * cords)):
                        told = told_of(length_by_looks, cords, family, figure)
                        self.assertEqual(told, (BadFamily, ("looks",)))

    def test_refusals_in_their_order(self):
        self.assertEqual(told_of(length_by_looks, 0, ("cut", "hook"), None), (BadCords, (0,)))
        self.assertEqual(told_of(length_by_looks, 2, ("hook", "cut"), None), (BadFamily, (1,)))
        self.assertEqual(told_of(length_by_looks, 2, ["cut"], None), (BadFamily, (None,)))
        self.assertEqual(told_of(length_by_looks, 2, ("cut",), (0, 1, True, 1)), (BadFigure, (2,)))
        self.assertEqual(told_of(length_by_looks, 2, ("cut",), (0, 0, 0, 0)), (BadFigure, ("family",)))
        self.assertEqual(told_of(length_by_looks, 5, ("cut", "join"), (0, 1, 2, 3, 4, 1, 0, 2, 3, 4)), (
            BadFigure, ("family",)))
        self.assertEqual(told_of(greatest_by_looks, True, None), (BadCords, (True,)))
        self.assertEqual(told_of(greatest_by_looks, 2, ()), (BadFamily, (None,)))

    def test_never_too_great(self):
        self.assertEqual(length_by_looks(5, ("cut", "join"), (0,) * 10), 4)
        self.assertEqual(greatest_by_looks(5, ("cut", "join")), 25)


class Doubling(unittest.TestCase):
    def test_the_documents_example(self):
        self.assertEqual(doubled(1, (0, 1)), (0, 0, 1, 1))
        self.assertEqual(halved(1, (0, 0, 1, 1)), (0, 1))

    def ends(self, cords, point):
        """Both ends of a point, as points of twice as many cords."""
        if point < cords:
            return 2 * point, 2 * point + 1
        place = point - cords
        return 2 * cords + 2 * place + 1, 2 * cords + 2 * place

    def test_doubled_by_its_ends(self):
        for cords in (1, 2, 3):
            for figure in flat_figures(cords):
                ties = []
                for piece in brute.pieces(figure):
                    around = [point for point in brute.ring(cords) if point in piece]
                    for point, behind in zip(around, around[1:] + around[:1]):
                        ties.append((self.ends(cords, point)[1], self.ends(cords, behind)[0]))
                points = range(4 * cords)
                lots = brute.components(points, ties)
                self.assertEqual(doubled(cords, figure), brute.figure_by_lots(points, lots))

    def test_each_flat_figure_of_pairs_comes_from_just_one(self):
        for cords in (1, 2, 3):
            twice = {doubled(cords, figure): figure for figure in flat_figures(cords)}
            self.assertEqual(len(twice), len(flat_figures(cords)))
            if cords < 3:
                pairs = [one for one in flat_figures(2 * cords) if all(len(piece) == 2 for piece in brute.pieces(one))]
                self.assertEqual(sorted(twice), pairs)
            for double, figure in twice.items():
                self.assertEqual(halved(cords, double), figure)

    def test_halving_on_four_and_five_cords(self):
        for cords in (4, 5):
            for row in brute.some_rows(cords, 60, 15, words=("cut", "join")):
                figure = brute.row_told(cords, row)[0]
                double = doubled(cords, figure)
                self.assertEqual(len(double), 4 * cords)
                self.assertTrue(brute.is_flat(2 * cords, double))
                self.assertTrue(all(len(piece) == 2 for piece in brute.pieces(double)))
                self.assertEqual(halved(cords, double), figure)

    def test_doubled_deeds_and_rows(self):
        for cords in (1, 2, 3, 4, 5):
            for word, place in brute.deeds_of(cords, ("cut", "join")):
                hook = ("hook", 2 * place + (1 if word == "join" else 0))
                figure = brute.deed_figure(cords, (word, place))
                self.assertEqual(doubled(cords, figure), brute.deed_figure(2 * cords, hook))
            near = brute.some_rows(cords, 30, 6, words=("cut", "join"))
            far = brute.some_rows(cords, 30, 6, seed=8, words=("cut", "join"))
            for one, other in zip(near, far):
                figure, below = brute.row_told(cords, one)[0], brute.row_told(cords, other)[0]
                both = brute.put(cords, figure, below)[0]
                twice = brute.put(2 * cords, doubled(cords, figure), doubled(cords, below))[0]
                self.assertEqual(doubled(cords, both), twice)

    def test_what_cannot_be_doubled_or_halved(self):
        for cords in (2, 3):
            for figure in brute.all_figures(cords):
                told = told_of(doubled, cords, figure)
                self.assertIs(told == (BadFigure, ("flat",)), not brute.is_flat(cords, figure))
        self.assertEqual(told_of(doubled, 2, (0, 1, 1)), (BadFigure, (None,)))
        self.assertEqual(told_of(doubled, 2, (0, 1, 3, 0)), (BadFigure, (2,)))
        for figure in brute.all_figures(2):
            told = told_of(halved, 1, figure)
            pairs = all(len(piece) == 2 for piece in brute.pieces(figure))
            self.assertIs(told == (BadFigure, ("flat",)), not (pairs and brute.is_flat(2, figure)))
        wrong = [(None, None), ((0, 1), None), ([0, 0, 1, 1], None), ((0, 1, 0, 1, 2), None), ((0, 0, 2, 1), 2),
                 ((0, 0, 1, True), 3), ((1, 0, 0, 1), 0), ((0, 0, 1, -1), 3), ((0, 0, "1", 1), 2)]
        for figure, place in wrong:
            self.assertEqual(told_of(halved, 1, figure), (BadFigure, (place,)))
        self.assertEqual(told_of(halved, 10, (0,) * 40), (BadCords, (10,)))
        self.assertEqual(told_of(halved, 5, (0,) * 20), (BadFigure, ("flat",)))
        self.assertEqual(told_of(halved, 5, (0,) * 10), (BadFigure, (None,)))
        self.assertEqual(halved(5, tuple(range(10)) * 2), (0, 1, 2, 3, 4) * 2)
