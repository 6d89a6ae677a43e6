"""Rows that leave just so many pieces: [28]."""

import unittest

from hookedcords.errors import BadCords, BadFamily, BadFigure, BadNumber, TooGreat
from hookedcords.leaving import can_leave, fewest_leaving, leaving_lengths, row_leaving
from tests import brute
from tests.brute import told_of

SMALL = [(1, family) for family in brute.FAMILIES] + [(2, family) for family in brute.FAMILIES] + [
    (3, ("hook",)), (3, ("cut",)), (3, ("swap",)), (3, ("join", "swap")), (3, ("hook", "join")), (3, ("cut", "hook"))]


def first_rows(cords, family, most):
    """For each pair of a figure and its leftovers the first of the shortest rows of at most so many deeds."""
    found = {}
    loose = set()
    for row in brute.rows_up_to(cords, family, most):
        figure, left = brute.row_told(cords, row)
        found.setdefault((figure, left), row)
        if any(word in ("cut", "hook") for word, _ in row):
            loose.add(figure)
    return found, loose


class Leaving(unittest.TestCase):
    def test_by_going_through_all_rows_of_some_deeds(self):
        for cords, family in SMALL:
            most = {0: 2, 1: 14, 2: 10, 3: 7, 4: 6, 5: 5}[len(brute.deeds_of(cords, family))]
            found, loose = first_rows(cords, family, most)
            for figure in brute.closure(cords, family):
                lengths = leaving_lengths(cords, family, figure)
                self.assertEqual(len(lengths), 13)
                for number, length in enumerate(lengths):
                    row = found.get((figure, number))
                    if row is None:
                        self.assertTrue(length is None or length > most)
                    else:
                        self.assertEqual(length, len(row))
                        self.assertEqual(row_leaving(cords, family, figure, number), row)
                    self.assertEqual(fewest_leaving(cords, family, figure, number), length)
                if figure in loose:
                    self.assertIs(can_leave(cords, family, figure), True)

    def test_whether_something_can_be_left(self):
        for cords, family in SMALL + [(3, brute.WORDS), (3, ("cut", "join")), (4, ("hook", "join", "swap"))]:
            for figure in list(brute.closure(cords, family))[:40]:
                # A cut or a hook done again leaves one piece more, so twelve are left if any are.
                told = fewest_leaving(cords, family, figure, 12) is not None
                self.assertIs(can_leave(cords, family, figure), told)
            self.assertIs(can_leave(cords, family, tuple(range(cords)) * 2), False)
        self.assertIs(can_leave(2, ("cut", "join"), (0, 0, 0, 0)), True)
        self.assertIs(can_leave(2, ("hook", "join"), (0, 0, 0, 0)), False)
        self.assertIs(can_leave(3, ("hook", "join"), (0,) * 6), True)
        self.assertIs(can_leave(3, ("join", "swap"), (0,) * 6), False)

    def test_rows_leave_what_they_should_and_grow_slowly(self):
        for cords, family in [(3, brute.WORDS), (3, ("cut", "join")), (5, ("cut", "hook")), (4, ("hook", "swap"))]:
            for figure in list(brute.closure(cords, family))[::60]:
                lengths = leaving_lengths(cords, family, figure)
                for number in (0, 1, 5, 12):
                    row = row_leaving(cords, family, figure, number)
                    if row is None:
                        self.assertIsNone(lengths[number])
                    else:
                        self.assertEqual(brute.row_told(cords, row), (figure, number))
                        self.assertEqual(len(row), lengths[number])
                for near, far in zip(lengths[1:], lengths[2:]):
                    self.assertTrue(near is None or far <= near + 1)

    def test_the_documents_example(self):
        self.assertEqual(leaving_lengths(1, ("cut",), (0, 1)), tuple(range(1, 14)))
        self.assertEqual(leaving_lengths(1, ("cut",), (0, 0)), (0,) + (None,) * 12)
        self.assertEqual(leaving_lengths(2, ("swap",), (0, 1, 1, 0)), (1,) + (None,) * 12)

    def test_refusals_in_their_order(self):
        straight = (0, 1, 2, 3, 4) * 2
        crossed = (0, 1, 2, 3, 4, 1, 0, 2, 3, 4)
        for call in (fewest_leaving, row_leaving):
            for wrong in (-1, 13, True, False, None, "0", (0,), 10 ** 999):
                self.assertEqual(told_of(call, 2, ("cut",), (0, 0, 0, 0), wrong), (BadNumber, (wrong,)))
                self.assertEqual(told_of(call, 2, ("cut",), (0, 0, 0), wrong), (BadFigure, (None,)))
            self.assertEqual(told_of(call, 2, ("cut",), (0, 0, 0, 0), 0), (BadFigure, ("family",)))
            self.assertEqual(told_of(call, 5, ("cut", "join"), crossed, 12), (BadFigure, ("family",)))
            self.assertEqual(told_of(call, 5, ("cut", "join"), straight, 12), (TooGreat, (5000,)))
            self.assertEqual(told_of(call, 5, ("cut", "join"), straight, 13), (BadNumber, (13,)))
            self.assertEqual(told_of(call, None, (), None, None), (BadCords, (None,)))
        for call in (leaving_lengths, can_leave):
            self.assertEqual(told_of(call, 2, ("cut",), (0, 0, 0, 0)), (BadFigure, ("family",)))
            self.assertEqual(told_of(call, 2, ("cut",), (0, 0, 0, 2)), (BadFigure, (3,)))
            self.assertEqual(told_of(call, 5, ("cut", "join"), straight), (TooGreat, (5000,)))
            self.assertEqual(told_of(call, 5, ("cut", "join"), crossed), (BadFigure, ("family",)))
            self.assertEqual(told_of(call, 2, ("cut", "cut"), None), (BadFamily, (1,)))
