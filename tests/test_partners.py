"""Partners: [35], [36], by going through all figures, and the order of refusals there."""

import unittest

from hookedcords.errors import BadFamily, BadFigure, BadNumber, TooGreat
from hookedcords.partners import (
    first_partner, is_partner, partners_in, roots_in, roundest_in, staying_in, undoer,
)
from hookedcords.powers import comes_round, powers_of
from tests import brute
from tests.brute import figures_of, over, told_of, upon

STRAIGHT = (0, 1, 2, 3, 4) * 2
CROSSED = (0, 1, 2, 3, 4, 1, 0, 2, 3, 4)
SMALL = list(brute.small_families(31))


def are_partners(cords, one, two):
    return upon(cords, one, two, one) == one and upon(cords, two, one, two) == two


def all_partners(cords, figure):
    return [one for one in brute.all_figures(cords) if are_partners(cords, figure, one)]


def by_repeating(cords, figure, many):
    return upon(cords, *[figure] * many)


class Partners(unittest.TestCase):
    def test_partners_and_undoers_among_all_figures(self):
        for cords in (1, 2, 3):
            figures = brute.all_figures(cords)
            for figure in figures[::1 if cords < 3 else 3]:
                found = all_partners(cords, figure)
                self.assertIn(over(cords, figure), found)
                for other in figures[::1 if cords < 3 else 4]:
                    self.assertIs(is_partner(cords, figure, other), other in found)
                undoers = [one for one in found if upon(cords, figure, one) == upon(cords, one, figure)]
                self.assertLessEqual(len(undoers), 1)
                self.assertEqual(undoer(cords, figure), undoers[0] if undoers else None)
                self.assertIs(undoers != [], comes_round(cords, figure)[0] <= 1)

    def test_undoers_on_more_cords(self):
        for cords in (4, 5):
            for figure in brute.some_figures(cords, 120) + [tuple(range(cords)) * 2]:
                told = undoer(cords, figure)
                self.assertIs(told is not None, comes_round(cords, figure)[0] <= 1)
                if told is not None:
                    self.assertTrue(are_partners(cords, figure, told))
                    self.assertEqual(upon(cords, figure, told), upon(cords, told, figure))

    def test_partners_in_families(self):
        for cords, family in SMALL:
            figures = figures_of(cords, family)
            for figure in figures[::1 if len(figures) < 20 else 3]:
                found = tuple(one for one in figures if are_partners(cords, figure, one))
                self.assertEqual(partners_in(cords, family, figure), found)
                self.assertEqual(first_partner(cords, family, figure), found[0])

    def test_staying(self):
        for cords, family in list(brute.small_families(203)) + [(4, ("cut", "hook")), (5, ("hook",))]:
            found = tuple(one for one in figures_of(cords, family) if upon(cords, one, one) == one)
            self.assertEqual(staying_in(cords, family), found)

    def test_roots(self):
        for cords, family in SMALL:
            figures = figures_of(cords, family)
            for many in (1, 2, 3, 4, 6, 29, 30):
                powers = {one: by_repeating(cords, one, many) for one in figures}
                for figure in figures[::1 if len(figures) < 20 else 4]:
                    found = tuple(one for one in figures if powers[one] == figure)
                    self.assertEqual(roots_in(cords, family, figure, many), found)
            self.assertEqual(roots_in(cords, family, figures[0], 1), figures[:1])

    def test_roundest(self):
        for cords, family in brute.small_families(203):
            best = max((comes_round(cords, one)[1], -at) for at, one in enumerate(figures_of(cords, family)))
            self.assertEqual(roundest_in(cords, family), (best[0], figures_of(cords, family)[-best[1]]))
        # Of exchanges of five cords a round of two beside one of three comes round latest.
        self.assertEqual(roundest_in(5, ("swap",)), (6, (0, 1, 2, 3, 4, 1, 0, 3, 4, 2)))
        self.assertEqual(roundest_in(4, ("hook",)), (1, (0, 0, 1, 1, 2, 2, 3, 3)))

    def test_the_documents_examples(self):
        self.assertEqual(staying_in(2, ("swap",)), ((0, 1, 0, 1),))
        self.assertEqual(undoer(2, (0, 0, 1, 1)), (0, 0, 1, 1))

    def test_undoers_are_powers(self):
        for figure in figures_of(4, ("swap",)):
            self.assertEqual(undoer(4, figure), over(4, figure))
            self.assertIn(undoer(4, figure), powers_of(4, figure))


class Refusals(unittest.TestCase):
    def test_too_great_behind_all_else(self):
        self.assertEqual(told_of(staying_in, 5, brute.WORDS), (TooGreat, (5000,)))
        self.assertEqual(told_of(roundest_in, 5, ("hook", "join", "swap")), (TooGreat, (5000,)))
        self.assertEqual(told_of(staying_in, 5, ("swap", "cut")), (BadFamily, (1,)))
        for call in (partners_in, first_partner):
            self.assertEqual(told_of(call, 5, ("cut", "join"), STRAIGHT), (TooGreat, (5000,)))
            self.assertEqual(told_of(call, 5, ("cut", "join"), CROSSED), (BadFigure, ("family",)))
        self.assertEqual(told_of(roots_in, 5, ("cut", "join"), STRAIGHT, 30), (TooGreat, (5000,)))

    def test_the_family_ahead_of_many(self):
        for wrong in (0, 31, True, None, "1", -1, 10 ** 9):
            self.assertEqual(told_of(roots_in, 5, ("cut", "join"), STRAIGHT, wrong), (BadNumber, (wrong,)))
            self.assertEqual(told_of(roots_in, 2, ("cut",), (0, 1, 0, 1), wrong), (BadNumber, (wrong,)))
            self.assertEqual(told_of(roots_in, 2, ("cut",), (0, 0, 0, 1), wrong), (BadFigure, ("family",)))
            self.assertEqual(told_of(roots_in, 2, ("cut",), (0, 0, 0, 2), wrong), (BadFigure, (3,)))

    def test_figures_of_any_family_are_partners(self):
        self.assertIs(is_partner(5, CROSSED, CROSSED), True)
        self.assertEqual(told_of(is_partner, 2, (0, 1, 0), None), (BadFigure, (None,)))
        self.assertEqual(told_of(is_partner, 2, (0, 1, 0, 1), (0, 1, 3, 0)), (BadFigure, (2,)))
