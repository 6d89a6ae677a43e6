"""Halves: [38], [39], by points and by going through all halves, and the order of refusals there."""

import itertools
import math
import unittest

from hookedcords.errors import BadCords, BadFigure, BadNumber
from hookedcords.halves import (
    all_halves, figure_of_halves, figures_by_rank, half_count, half_mirrored, hung, lower_half, meeting_of,
    need_half, upper_half,
)
from tests import brute
from tests.brute import told_of


def halves_by_hand(cords, number):
    """All halves with so many open pieces, by going through all tuples."""
    return tuple(
        (pieces, opened) for pieces in brute.growth_strings(cords)
        for opened in itertools.combinations(range(max(pieces) + 1), number))


def half_of(cords, figure, points):
    """The pair of one half of a figure and the figure's numbers of its open pieces, counted."""
    labels = [figure[point] for point in points]
    order = list(dict.fromkeys(labels))
    opened = [number for number, label in enumerate(order) if label in brute.through(cords, figure)]
    return (tuple(order.index(label) for label in labels), tuple(opened)), [order[number] for number in opened]


def hung_by_hand(cords, half, far_half):
    """Chains and rings by a search over places."""
    edges = [
        (one, other) for pieces, _ in (half, far_half)
        for one, other in itertools.combinations(range(cords), 2) if pieces[one] == pieces[other]
    ]
    chains, rings = [], 0
    for lot in sorted(brute.components(range(cords), edges), key=min):
        chain = tuple(
            tuple(at for at, piece in enumerate(opened) if piece in {pieces[place] for place in lot})
            for pieces, opened in (half, far_half))
        if chain == ((), ()):
            rings += 1
        else:
            chains.append(chain)
    return tuple(chains), rings


class Halves(unittest.TestCase):
    def test_halves_and_meeting_by_points(self):
        for cords, figure in brute.many_figures():
            upper, uppers = half_of(cords, figure, range(cords))
            lower, lowers = half_of(cords, figure, range(cords, 2 * cords))
            self.assertEqual(upper_half(cords, figure), upper)
            self.assertEqual(lower_half(cords, figure), lower)
            self.assertEqual(meeting_of(cords, figure), tuple(lowers.index(piece) for piece in uppers))
            self.assertEqual(figure_of_halves(cords, upper, meeting_of(cords, figure), lower), figure)

    def test_turned_over_has_the_halves_exchanged(self):
        for cords, figure in brute.many_figures():
            over = brute.over(cords, figure)
            self.assertEqual((upper_half(cords, over), lower_half(cords, over)), (
                lower_half(cords, figure), upper_half(cords, figure)))
            meeting = meeting_of(cords, figure)
            self.assertEqual(meeting_of(cords, over), tuple(meeting.index(at) for at in range(len(meeting))))

    def test_each_two_halves_and_meeting_are_those_of_one_figure(self):
        for cords in (1, 2, 3):
            figures = []
            for rank in range(cords + 1):
                halves = halves_by_hand(cords, rank)
                for half, far_half in itertools.product(halves, repeat=2):
                    for meeting in itertools.permutations(range(rank)):
                        figure = figure_of_halves(cords, half, meeting, far_half)
                        told = upper_half(cords, figure), meeting_of(cords, figure), lower_half(cords, figure)
                        self.assertEqual(told, (half, meeting, far_half))
                        figures.append(figure)
            self.assertEqual(sorted(figures), brute.all_figures(cords))

    def test_all_halves(self):
        for cords in range(1, 6):
            for number in range(cords + 1):
                self.assertEqual(all_halves(cords, number), halves_by_hand(cords, number))
                self.assertEqual(all_halves(cords, number), tuple(sorted(all_halves(cords, number))))
                self.assertEqual(half_count(cords, number), len(halves_by_hand(cords, number)))
            self.assertEqual(all_halves(cords, cords), ((tuple(range(cords)),) * 2,))

    def test_figures_by_rank(self):
        for cords in (1, 2, 3, 4):
            ranks = [len(brute.through(cords, figure)) for figure in brute.all_figures(cords)]
            self.assertEqual(figures_by_rank(cords), tuple(ranks.count(rank) for rank in range(cords + 1)))
        self.assertEqual(sum(figures_by_rank(5)), 115975)
        self.assertEqual(figures_by_rank(5), tuple(
            half_count(5, rank) ** 2 * math.factorial(rank) for rank in range(6)))

    def test_mirrored(self):
        for cords in range(1, 5):
            for number in range(cords + 1):
                for pieces, opened in all_halves(cords, number):
                    told, told_open = half_mirrored(cords, (pieces, opened))
                    self.assertEqual(told, brute.by_labels(pieces[::-1]))
                    self.assertEqual(
                        [told[place] in told_open for place in range(cords)],
                        [pieces[cords - 1 - place] in opened for place in range(cords)])
                    self.assertEqual(told_open, tuple(sorted(set(told_open))))
                    self.assertEqual(half_mirrored(cords, (told, told_open)), (pieces, opened))

    def test_need_half_is_itself(self):
        half = ((0, 1, 0), (1,))
        self.assertIs(need_half(3, half), half)
        self.assertEqual(need_half(1, ((0,), ())), ((0,), ()))


class Hung(unittest.TestCase):
    def test_chains_and_rings_by_places(self):
        for cords in (1, 2, 3):
            halves = [half for number in range(cords + 1) for half in all_halves(cords, number)]
            for half, far_half in itertools.product(halves, repeat=2):
                self.assertEqual(hung(cords, half, far_half), hung_by_hand(cords, half, far_half))
        halves = [half for number in range(6) for half in all_halves(5, number)]
        for half, far_half in zip(halves[::3], halves[5::7] + halves[::4]):
            self.assertEqual(hung(5, half, far_half), hung_by_hand(5, half, far_half))

    def test_what_hangs_together_when_figures_are_put_upon_one_another(self):
        pairs = [(cords, one, two) for cords in (1, 2) for one in brute.all_figures(cords) for two in
                 brute.all_figures(cords)]
        for cords in (3, 4, 5):
            figures = brute.some_figures(cords, 120)
            pairs += [(cords, one, two) for one, two in zip(figures, figures[1:])]
        for cords, one, two in pairs:
            whole, left = brute.put(cords, one, two)
            chains, rings = hung(cords, lower_half(cords, one), upper_half(cords, two))
            self.assertEqual(left, rings)
            self.assertEqual(
                len(brute.through(cords, whole)), len([chain for chain in chains if () not in chain]))
            self.check_upper_half(cords, one, whole, chains)

    def check_upper_half(self, cords, one, whole, chains):
        """The upper half of the whole is that of the first one, open pieces that meet in one chain having become one."""
        pieces, opened = upper_half(cords, one)
        meeting = meeting_of(cords, one)
        labels, is_open = list(pieces), {}
        for nears, fars in chains:
            joined = [opened[at] for at, met in enumerate(meeting) if met in nears]
            labels = [joined[0] if label in joined else label for label in labels]
            if joined:
                is_open[joined[0]] = fars != ()
        told, told_open = upper_half(cords, whole)
        self.assertEqual(told, brute.by_labels(labels))
        for place in range(cords):
            self.assertIs(told[place] in told_open, is_open.get(labels[place], False))

    def test_plain_cases(self):
        shut, wide = ((0, 0), ()), ((0, 1), (0, 1))
        self.assertEqual(hung(2, shut, shut), ((), 1))
        self.assertEqual(hung(2, wide, wide), ((((0,), (0,)), ((1,), (1,))), 0))
        self.assertEqual(hung(2, wide, shut), ((((0, 1), ()),), 0))
        self.assertEqual(hung(2, ((0, 1), ()), ((0, 1), (1,))), ((((), (0,)),), 1))
        # Open pieces are counted, whatever their numbers are.
        self.assertEqual(hung(3, ((0, 1, 2), (2,)), ((0, 1, 2), (1, 2))), ((((), (0,)), ((0,), (1,))), 1))


class Refusals(unittest.TestCase):
    def test_half_then_meeting_then_far_half_then_rank(self):
        half, far_half = ((0, 1), (0, 1)), ((0, 1), (0, 1))
        self.assertEqual(figure_of_halves(2, half, (1, 0), far_half), (0, 1, 1, 0))
        self.assertEqual(told_of(figure_of_halves, 2, ((0, 1), (0, 2)), (0,), None), (BadFigure, ("open",)))
        for meeting in [(0,), (0, 0), (0, 2), (1, True), (False, 1), [0, 1], (0, 1, 2), None, 0, (), ("0", "1")]:
            self.assertEqual(told_of(figure_of_halves, 2, half, meeting, None), (BadNumber, (meeting,)))
            self.assertEqual(told_of(figure_of_halves, 2, half, meeting, ((0, 0), (0,))), (BadNumber, (meeting,)))
        self.assertEqual(told_of(figure_of_halves, 2, half, (0, 1), None), (BadFigure, ("half",)))
        self.assertEqual(told_of(figure_of_halves, 2, half, (0, 1), ((0, 0), (1,))), (BadFigure, ("open",)))
        self.assertEqual(told_of(figure_of_halves, 2, half, (0, 1), ((0, 0), (0,))), (BadFigure, ("rank",)))
        self.assertEqual(told_of(figure_of_halves, 2, ((0, 0), ()), (), ((0, 1), (1,))), (BadFigure, ("rank",)))
        self.assertEqual(told_of(figure_of_halves, 9, None, None, None), (BadCords, (9,)))

    def test_half_whole_ahead_of_far_half(self):
        self.assertEqual(told_of(hung, 2, ((0, 0), (1,)), None), (BadFigure, ("open",)))
        self.assertEqual(told_of(hung, 2, ((0, 0), ()), ((0,), ())), (BadFigure, ("pieces",)))
        self.assertEqual(told_of(hung, 2, ((0, True), ()), ((0,), ())), (BadFigure, ("pieces",)))

    def test_numbers(self):
        for call in (all_halves, half_count):
            for wrong in (-1, 3, True, False, None, "1", (1,), 10 ** 999):
                self.assertEqual(told_of(call, 2, wrong), (BadNumber, (wrong,)))
            self.assertEqual(told_of(call, 2.0, 1), (BadCords, (2.0,)))
        self.assertEqual(told_of(figures_by_rank, False), (BadCords, (False,)))
