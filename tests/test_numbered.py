"""The figures of families, numbered and counted: [15], [16], [23], [24]."""

import itertools
import unittest

from hookedcords.errors import BadFigure, BadNumber, TooGreat
from hookedcords.numbered import (
    both_figures, family_of_both, figure_at, figure_count, figure_number, figures_of, figures_of_rank, next_figure,
    piece_counts, rank_counts,
)
from tests import brute

SIZES = {
    "cut": (2, 4, 8, 16, 32), "hook": (1, 2, 5, 14, 42), "cut hook": (2, 7, 30, 143, 728),
    "join": (1, 2, 4, 8, 16), "cut join": (2, 14, 132, 1430, 16796), "cut hook join": (2, 14, 132, 1430, 16796),
    "hook join": (1, 3, 12, 55, 273), "swap": (1, 2, 6, 24, 120), "cut swap": (2, 7, 34, 209, 1546),
    "hook swap": (1, 3, 15, 105, 945), "cut hook swap": (2, 10, 76, 764, 9496),
    "join swap": (1, 3, 16, 131, 1496), "hook join swap": (1, 4, 31, 379, 6556),
    "cut join swap": (2, 15, 203, 4140, 115975), "cut hook join swap": (2, 15, 203, 4140, 115975),
}
GREAT = [family for family in brute.FAMILIES if SIZES[" ".join(family)][4] > 5000]
STRAIGHT = (0, 1, 2, 3, 4) * 2


def figures_by_facts(cords):
    """For each family its ascending figures, by the facts alone."""
    every = brute.all_figures(cords)
    return {family: [one for one in every if brute.belongs(cords, family, one)] for family in brute.FAMILIES}


class Counts(unittest.TestCase):
    def test_sizes(self):
        self.assertEqual(len(SIZES), 15)
        for family in brute.FAMILIES:
            for cords in range(1, 6):
                self.assertEqual(figure_count(cords, family), SIZES[" ".join(family)][cords - 1])

    def test_sizes_by_going_through_all_rows(self):
        for cords in range(1, 6):
            for family in brute.FAMILIES:
                if SIZES[" ".join(family)][cords - 1] <= 10000:
                    self.assertEqual(figure_count(cords, family), len(brute.closure(cords, family)))
        self.assertEqual(figure_count(5, brute.WORDS), len(brute.all_figures(5)))
        flat = sum(brute.is_flat(5, figure) for figure in brute.all_figures(5))
        self.assertEqual(figure_count(5, ("cut", "join")), flat)

    def test_too_great_on_five_cords_alone(self):
        self.assertEqual(len(GREAT), 6)
        for family in brute.FAMILIES:
            for cords in range(1, 6):
                calls = [
                    lambda: figures_of(cords, family), lambda: figure_at(cords, family, 0),
                    lambda: next_figure(cords, family, STRAIGHT[:cords] * 2),
                    lambda: figure_number(cords, family, STRAIGHT[:cords] * 2),
                    lambda: rank_counts(cords, family), lambda: piece_counts(cords, family),
                    lambda: figures_of_rank(cords, family, cords), lambda: both_figures(cords, family, ("join",)),
                    lambda: both_figures(cords, ("join",), family), lambda: family_of_both(cords, family, ("join",)),
                    lambda: family_of_both(cords, ("join",), family),
                ]
                if cords == 4 and family != ("cut", "join"):
                    continue
                for call in calls:
                    if cords == 5 and family in GREAT:
                        with self.assertRaises(TooGreat) as caught:
                            call()
                        self.assertEqual(caught.exception.most, 5000)
                    else:
                        call()


class Numbers(unittest.TestCase):
    def test_figures_in_their_order(self):
        for cords in (1, 2, 3):
            for family, figures in figures_by_facts(cords).items():
                self.assertEqual(figures_of(cords, family), tuple(figures))
                for number, figure in enumerate(figures[:40]):
                    self.assertEqual(figure_number(cords, family, figure), number)
                    self.assertEqual(figure_at(cords, family, number), figure)
        self.assertEqual(figures_of(4, brute.WORDS), tuple(brute.all_figures(4)))
        for family in brute.FAMILIES:
            if family not in GREAT:
                self.assertEqual(figures_of(5, family), tuple(sorted(brute.closure(5, family))))

    def test_numbers_at_both_bounds_and_beyond(self):
        for cords, family in [(1, ("hook",)), (2, ("cut", "swap")), (3, brute.WORDS), (5, ("hook", "join"))]:
            many = figure_count(cords, family)
            self.assertEqual(figure_at(cords, family, 0), figures_of(cords, family)[0])
            self.assertEqual(figure_at(cords, family, many - 1), figures_of(cords, family)[-1])
            for wrong in (-1, many, True, False, None, "0", (0,), 10 ** 999):
                with self.assertRaises(BadNumber) as caught:
                    figure_at(cords, family, wrong)
                self.assertIs(caught.exception.value, wrong)

    def test_the_order_of_refusals(self):
        with self.assertRaises(BadNumber):
            figure_at(5, ("cut", "join"), 16796)
        with self.assertRaises(TooGreat):
            figure_at(5, ("cut", "join"), 16795)
        with self.assertRaises(BadNumber):
            figures_of_rank(5, ("cut", "join"), 6)
        with self.assertRaises(BadFigure) as caught:
            figure_number(5, ("cut", "join"), (0, 1, 2, 3, 4, 1, 0, 2, 3, 4))
        self.assertEqual(caught.exception.place, "family")
        with self.assertRaises(BadFigure) as caught:
            figure_number(2, ("cut",), (0, 0, 0, 0))
        self.assertEqual(caught.exception.place, "family")

    def test_next_figures(self):
        for cords in (1, 2, 3):
            for family, figures in figures_by_facts(cords).items():
                for figure in brute.all_figures(cords)[::1 if cords < 3 else 9]:
                    greater = [one for one in figures if one > figure]
                    self.assertEqual(next_figure(cords, family, figure), greater[0] if greater else None)

    def test_ranks_and_numbers_of_pieces(self):
        for cords in (1, 2, 3):
            for family, figures in figures_by_facts(cords).items():
                ranks = [len(set(one[:cords]) & set(one[cords:])) for one in figures]
                self.assertEqual(rank_counts(cords, family), tuple(ranks.count(at) for at in range(cords + 1)))
                many = [max(one) + 1 for one in figures]
                self.assertEqual(
                    piece_counts(cords, family), tuple(many.count(at) for at in range(1, 2 * cords + 1)))
                for rank in range(cords + 1):
                    told = tuple(one for one, at in zip(figures, ranks) if at == rank)
                    self.assertEqual(figures_of_rank(cords, family, rank), told)
                for wrong in (-1, cords + 1, True, None, "1"):
                    with self.assertRaises(BadNumber) as caught:
                        figures_of_rank(cords, family, wrong)
                    self.assertIs(caught.exception.value, wrong)


class Both(unittest.TestCase):
    def test_what_two_families_both_have(self):
        for cords in (1, 2, 3):
            having = figures_by_facts(cords)
            for family, other in itertools.product(brute.FAMILIES, repeat=2):
                both = [one for one in having[family] if one in having[other]]
                self.assertEqual(both_figures(cords, family, other), tuple(both))
                just = [one for one in brute.FAMILIES if having[one] == both]
                least = [one for one in just if len(one) == min(len(two) for two in just)]
                self.assertEqual(family_of_both(cords, family, other), least[0] if just else None)

    def test_examples(self):
        self.assertIsNone(family_of_both(3, ("cut", "hook"), ("cut", "swap")))
        self.assertIn((0, 1, 2, 2, 3, 4), both_figures(3, ("cut", "hook"), ("cut", "swap")))
        self.assertEqual(family_of_both(1, ("join",), ("swap",)), ("hook",))
        self.assertEqual(family_of_both(2, ("cut", "hook", "join"), ("cut", "join")), ("cut", "join"))
        self.assertEqual(family_of_both(4, ("hook", "swap"), ("hook", "join")), ("hook",))
