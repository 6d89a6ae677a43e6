"""Deeds and rows: [11], [12], [13], [17], [19]."""

import itertools
import unittest

from hookedcords.errors import BadNumber, BadRow
from hookedcords.figures import left_over, mirrored, straight, turned_over, upon
from hookedcords.rows import (
    are_alike, are_alike_to_last, deed_figure, deeds_of, figure_of, figures_on_way, first_together, leftovers_of,
    leftovers_on_way, row_mirrored, row_over,
)
from tests import brute


def rows_of_all_sizes(many):
    for cords in range(1, 6):
        for row in brute.some_rows(cords, many, 40) + brute.some_rows(cords, many, 6, seed=5):
            yield cords, row


class Deeds(unittest.TestCase):
    def test_all_deeds_ascend(self):
        self.assertEqual(deeds_of(1), (("cut", 0),))
        self.assertEqual(deeds_of(2), (("cut", 0), ("cut", 1), ("hook", 0), ("join", 0), ("swap", 0)))
        for cords in range(1, 6):
            self.assertEqual(deeds_of(cords), tuple(brute.deeds_of(cords)))
            self.assertEqual(list(deeds_of(cords)), sorted(deeds_of(cords)))
            self.assertEqual(len(deeds_of(cords)), 4 * cords - 3)

    def test_the_figures_of_deeds(self):
        self.assertEqual(deed_figure(2, ("cut", 0)), (0, 1, 2, 1))
        self.assertEqual(deed_figure(2, ("hook", 0)), (0, 0, 1, 1))
        self.assertEqual(deed_figure(2, ("join", 0)), (0, 0, 0, 0))
        self.assertEqual(deed_figure(2, ("swap", 0)), (0, 1, 1, 0))
        self.assertEqual(deed_figure(3, ("hook", 1)), (0, 1, 1, 0, 2, 2))
        for cords in range(1, 6):
            for deed in deeds_of(cords):
                self.assertEqual(deed_figure(cords, deed), brute.deed_figure(cords, deed))
                self.assertEqual(figure_of(cords, (deed,)), brute.deed_figure(cords, deed))
                self.assertEqual(turned_over(cords, deed_figure(cords, deed)), deed_figure(cords, deed))

    def test_what_is_no_deed(self):
        wrong = [
            None, (), ("cut",), ("cut", 0, 0), ["cut", 0], "cut", ("cut", 2), ("cut", -1), ("cut", True),
            ("cut", "0"), ("cut", None), ("hook", 1), ("join", 1), ("swap", 1), ("Hook", 0), (0, "hook"),
            ("", 0), (None, 0), (("hook", 0),), ((("hook", 0)), 0), ("hook", (0,)), ("hook", 10 ** 999), True, 0,
        ]
        for deed in wrong:
            with self.assertRaises(BadNumber) as caught:
                deed_figure(2, deed)
            self.assertIs(caught.exception.value, deed)
            with self.assertRaises(BadRow) as caught:
                figure_of(2, (("cut", 0), deed, None))
            self.assertEqual(caught.exception.number, 1)
        for word in ("hook", "join", "swap"):
            with self.assertRaises(BadRow) as caught:
                figure_of(1, ((word, 0),))
            self.assertEqual(caught.exception.number, 0)


class Rows(unittest.TestCase):
    def test_figures_and_leftovers_from_the_other_end(self):
        for cords, row in rows_of_all_sizes(40):
            self.assertEqual((figure_of(cords, row), leftovers_of(cords, row)), brute.row_told(cords, row))

    def test_the_row_of_no_deed_and_of_forty(self):
        for cords in range(1, 6):
            self.assertEqual((figure_of(cords, ()), leftovers_of(cords, ())), (straight(cords), 0))
            self.assertEqual(figures_on_way(cords, ()), (straight(cords),))
            self.assertEqual(leftovers_on_way(cords, ()), (0,))
            row = (("cut", cords - 1),) * 40
            self.assertEqual(leftovers_of(cords, row), 39)
            self.assertEqual(leftovers_on_way(cords, row), (0,) + tuple(range(40)))
            for wrong in (row + (("cut", 0),), row + (None,), (None,) * 41):
                with self.assertRaises(BadRow) as caught:
                    leftovers_of(cords, wrong)
                self.assertIsNone(caught.exception.number)

    def test_figures_and_leftovers_on_the_way(self):
        for cords, row in rows_of_all_sizes(6):
            beginnings = [row[:many] for many in range(len(row) + 1)]
            self.assertEqual(figures_on_way(cords, row), tuple(figure_of(cords, one) for one in beginnings))
            self.assertEqual(leftovers_on_way(cords, row), tuple(leftovers_of(cords, one) for one in beginnings))

    def test_a_row_behind_a_row(self):
        for cords in range(1, 6):
            near, far = brute.some_rows(cords, 60, 20), brute.some_rows(cords, 60, 20, seed=9)
            for row, far_row in zip(near, far):
                one, other = figure_of(cords, row), figure_of(cords, far_row)
                self.assertEqual(figure_of(cords, row + far_row), upon(cords, one, other))
                left = leftovers_of(cords, row) + leftovers_of(cords, far_row) + left_over(cords, one, other)
                self.assertEqual(leftovers_of(cords, row + far_row), left)

    def test_a_deed_done_twice(self):
        for cords in range(1, 6):
            for deed in deeds_of(cords):
                once, twice = figure_of(cords, (deed,)), figure_of(cords, (deed, deed))
                self.assertEqual(twice, straight(cords) if deed[0] == "swap" else once)
                self.assertEqual(leftovers_of(cords, (deed, deed)), 1 if deed[0] in ("cut", "hook") else 0)

    def test_alike(self):
        short = list(brute.rows_up_to(2, brute.WORDS, 2))
        for row, far_row in itertools.product(short, repeat=2):
            one, other = brute.row_told(2, row), brute.row_told(2, far_row)
            self.assertIs(are_alike(2, row, far_row), one[0] == other[0])
            self.assertIs(are_alike_to_last(2, row, far_row), one == other)
        self.assertIs(are_alike_to_last(2, (("cut", 0),), (("cut", 0),) * 2), False)
        self.assertIs(are_alike(2, (("cut", 0),), (("cut", 0),) * 2), True)

    def test_turned_over_and_mirrored(self):
        self.assertEqual(row_over(3, (("cut", 0), ("hook", 1))), (("hook", 1), ("cut", 0)))
        self.assertEqual(row_mirrored(3, (("cut", 0), ("hook", 1))), (("cut", 2), ("hook", 0)))
        for cords, row in rows_of_all_sizes(12):
            figure, left = figure_of(cords, row), leftovers_of(cords, row)
            over, glass = row_over(cords, row), row_mirrored(cords, row)
            self.assertEqual((figure_of(cords, over), leftovers_of(cords, over)), (turned_over(cords, figure), left))
            self.assertEqual((figure_of(cords, glass), leftovers_of(cords, glass)), (mirrored(cords, figure), left))
            self.assertEqual((row_over(cords, over), row_mirrored(cords, glass)), (row, row))

    def test_first_together(self):
        row = (("cut", 0), ("hook", 0), ("join", 1))
        self.assertIsNone(first_together(3, row, 0, 1))
        self.assertEqual(first_together(3, row, 1, 1), 0)
        self.assertEqual(first_together(3, (("swap", 0), ("join", 1)), 0, 2), 2)
        for cords, row in rows_of_all_sizes(6):
            ways = figures_on_way(cords, row)
            for place, far_place in itertools.product(range(cords), repeat=2):
                when = [at for at, figure in enumerate(ways) if figure[place] == figure[far_place]]
                self.assertEqual(first_together(cords, row, place, far_place), when[0] if when else None)
                # Once they hang together, they do so from then on.
                self.assertEqual(when, list(range(when[0], len(row) + 1)) if when else [])

    def test_first_together_of_wrong_places(self):
        for wrong in (-1, 2, True, None, "0", (0,)):
            with self.assertRaises(BadNumber) as caught:
                first_together(2, (), wrong, 7)
            self.assertEqual(repr(caught.exception.value), repr(wrong))
            with self.assertRaises(BadNumber) as caught:
                first_together(2, (), 1, wrong)
            self.assertEqual(repr(caught.exception.value), repr(wrong))
