"""Rows with gaps: [55], by going through all fillings."""

import itertools
import unittest

from hookedcords.errors import BadNumber, BadRow
from hookedcords.gaps import (
    all_deeds, does_fill, filling_at, gapped_between, many_fillings, need_gapped, number_of_filling,
)
from tests import brute
from tests.brute import told_of

HOOK, SWAP = ("hook", 0), ("swap", 0)


class Fillings(unittest.TestCase):
    def test_by_going_through_all(self):
        for cords, gapped, _ in brute.drawn_sightings(40, seed=1):
            rows = brute.fillings(cords, gapped)
            self.assertIs(need_gapped(cords, gapped), gapped)
            self.assertEqual(many_fillings(cords, gapped), len(rows))
            for number, row in enumerate(rows):
                self.assertEqual(filling_at(cords, gapped, number), row)
                self.assertEqual(number_of_filling(cords, gapped, row), number)
                self.assertIs(does_fill(cords, gapped, row), True)
            for number in (len(rows), -1, True, None):
                self.assertEqual(told_of(filling_at, cords, gapped, number), (BadNumber, (number,)))
            for row in brute.some_rows(cords, 20, 5, seed=len(rows)):
                number = rows.index(row) if row in rows else None
                self.assertEqual(number_of_filling(cords, gapped, row), number)
                self.assertIs(does_fill(cords, gapped, row), number is not None)

    def test_rows_without_items(self):
        for cords in (1, 2, 3, 4, 5):
            self.assertEqual(many_fillings(cords, ()), 1)
            self.assertEqual(filling_at(cords, (), 0), ())
            self.assertEqual(number_of_filling(cords, (), ()), 0)
            self.assertIsNone(number_of_filling(cords, (), (("cut", 0),)))
            self.assertEqual(told_of(filling_at, cords, (), 1), (BadNumber, (1,)))

    def test_rows_of_twelve_items(self):
        gapped = (None,) * 12
        self.assertEqual(many_fillings(5, gapped), 17 ** 12)
        self.assertEqual(filling_at(5, gapped, 0), (("cut", 0),) * 12)
        self.assertEqual(filling_at(5, gapped, 17 ** 12 - 1), (("swap", 3),) * 12)
        number = 123456789012345
        row = filling_at(5, gapped, number)
        self.assertEqual(number_of_filling(5, gapped, row), number)
        self.assertEqual(told_of(filling_at, 5, gapped, 17 ** 12), (BadNumber, (17 ** 12,)))
        self.assertEqual(told_of(many_fillings, 5, (None,) * 13), (BadRow, (None,)))
        self.assertIs(does_fill(5, gapped, row + (("cut", 0),)), False)
        self.assertIs(does_fill(5, gapped, row[1:]), False)
        self.assertIs(does_fill(5, gapped, row * 3), False)

    def test_none_stands_for_all_deeds(self):
        for cords in (1, 2, 3, 4, 5):
            self.assertEqual(all_deeds(cords), tuple(brute.deeds_of(cords)))
            self.assertEqual(many_fillings(cords, (None,)), len(all_deeds(cords)))
            self.assertEqual(many_fillings(cords, (all_deeds(cords), None)), len(all_deeds(cords)) ** 2)
        self.assertEqual(all_deeds(1), (("cut", 0),))


class Between(unittest.TestCase):
    def test_the_least_lots_that_both_fill(self):
        for cords in (1, 2, 3, 5):
            rows = [row[:12] for row in brute.some_rows(cords, 40, 12, seed=5)]
            for row, far_row in itertools.product(rows, repeat=2):
                told = told_of(gapped_between, cords, row, far_row)
                if len(row) != len(far_row):
                    self.assertEqual(told, (BadRow, (None,)))
                    continue
                self.assertTrue(does_fill(cords, told, row) and does_fill(cords, told, far_row))
                for lot, deed, far_deed in zip(told, row, far_row):
                    self.assertEqual(lot, (deed,) if deed == far_deed else tuple(sorted((deed, far_deed))))

    def test_one_cord_tells_no_none(self):
        self.assertEqual(gapped_between(1, (("cut", 0),), (("cut", 0),)), ((("cut", 0),),))
        self.assertEqual(gapped_between(2, (), ()), ())

    def test_too_many_deeds(self):
        long, twelve = (HOOK,) * 13, (HOOK,) * 12
        self.assertEqual(told_of(gapped_between, 2, long, long), (BadRow, (None,)))
        self.assertEqual(told_of(gapped_between, 2, long, (("hook", 1),)), (BadRow, (None,)))
        self.assertEqual(told_of(gapped_between, 2, long + (("hook", 1),), ()), (BadRow, (13,)))
        self.assertEqual(told_of(gapped_between, 2, twelve, (("hook", 1),)), (BadRow, (0,)))
        self.assertEqual(told_of(gapped_between, 2, twelve, long), (BadRow, (None,)))
        self.assertEqual(told_of(gapped_between, 2, twelve, (HOOK,) * 41), (BadRow, (None,)))
        self.assertEqual(gapped_between(2, twelve, (SWAP,) * 12), ((HOOK, SWAP),) * 12)


class Refusals(unittest.TestCase):
    def test_what_is_no_lot(self):
        for item in [(), (SWAP, HOOK), (HOOK, HOOK), [HOOK], HOOK, "None", 0, False, (("hook", 1),), ((HOOK,),)]:
            self.assertEqual(told_of(need_gapped, 2, (None, item, None)), (BadRow, (1,)))
        self.assertEqual(told_of(need_gapped, 2, ((HOOK, SWAP), (SWAP,))), ((HOOK, SWAP), (SWAP,)))
        self.assertEqual(told_of(need_gapped, 1, ((HOOK,),)), (BadRow, (0,)))

    def test_gapped_comes_ahead_of_row_and_number(self):
        self.assertEqual(told_of(does_fill, 2, ((),), None), (BadRow, (0,)))
        self.assertEqual(told_of(does_fill, 2, (None,), (HOOK, ("cut", 2))), (BadRow, (1,)))
        self.assertEqual(told_of(number_of_filling, 2, (None,) * 13, (("cut", 2),)), (BadRow, (None,)))
        self.assertEqual(told_of(filling_at, 2, (HOOK,), -1), (BadRow, (0,)))
