"""Colourings: [51], [52], by going through all colourings of small cases, and the order of refusals there."""

import itertools
import unittest

from hookedcords.colourings import (
    bottoms_for, first_apart, inner_way, least_bottom, lets, lets_just_so, number_of_pair, number_of_way,
    pair_numbered, pairs_just_so, pairs_let, ways,
)
from hookedcords.errors import BadColours, BadCords, BadFigure, BadNumber, BadRow
from tests import brute
from tests.brute import told_of

MOST = 10 ** 6
CASES = [(1, 1), (1, 2), (1, 3), (1, 4), (2, 1), (2, 2), (2, 3), (3, 1), (3, 2)]


def colourings(cords, many):
    return list(itertools.product(range(many), repeat=cords))


def pairs(cords, many):
    return list(itertools.product(colourings(cords, many), repeat=2))


def is_let(figure, colours):
    return all(colours[one] == colours[two] for one, two in itertools.combinations(range(len(figure)), 2)
               if figure[one] == figure[two])


def is_just_so(figure, colours):
    return all((colours[one] == colours[two]) == (figure[one] == figure[two])
               for one, two in itertools.combinations(range(len(figure)), 2))


def some_rows(cords, most, many=12):
    return [(), (("cut", 0),)] + brute.some_rows(cords, many, most, seed=13)


def ways_by_hand(cords, row, many, top, bottom):
    """All inner ways, ascending, by going through all tuples of colourings."""
    if row == ():
        return [()] if top == bottom else []
    shapes = [brute.deed_figure(cords, deed) for deed in row]
    found = []
    for way in itertools.product(colourings(cords, many), repeat=len(row) - 1):
        levels = (top,) + way + (bottom,)
        if all(is_let(shape, near + far) for shape, near, far in zip(shapes, levels, levels[1:])):
            found.append(way)
    return found


class Pairs(unittest.TestCase):
    def test_pairs_by_going_through_all(self):
        for cords, many in CASES:
            figures = brute.all_figures(cords)
            for figure in figures[::1 if cords < 3 else 7]:
                let = [pair for pair in pairs(cords, many) if is_let(figure, pair[0] + pair[1])]
                just_so = [pair for pair in let if is_just_so(figure, pair[0] + pair[1])]
                self.assertEqual(pairs_let(cords, figure, many), len(let))
                self.assertEqual(pairs_just_so(cords, figure, many), len(just_so))
                for number, pair in enumerate(let):
                    self.assertEqual(pair_numbered(cords, figure, many, number), pair)
                    self.assertEqual(number_of_pair(cords, figure, many, *pair), number)
                self.assertEqual(told_of(pair_numbered, cords, figure, many, len(let)), (BadNumber, (len(let),)))
                for pair in pairs(cords, many):
                    self.assertIs(lets(cords, figure, many, *pair), pair in let)
                    self.assertIs(lets_just_so(cords, figure, many, *pair), pair in just_so)
                    if pair not in let:
                        told = told_of(number_of_pair, cords, figure, many, *pair)
                        self.assertEqual(told, (BadColours, ("let",)))
                for top in colourings(cords, many):
                    bottoms = [bottom for bottom in colourings(cords, many) if (top, bottom) in let]
                    self.assertEqual(bottoms_for(cords, figure, many, top), len(bottoms))
                    self.assertEqual(least_bottom(cords, figure, many, top), bottoms[0] if bottoms else None)

    def test_many_colours(self):
        apart, straight = tuple(range(10)), (0, 1, 2, 3, 4) * 2
        self.assertEqual(pairs_let(5, apart, MOST), MOST ** 10)
        self.assertEqual(pairs_let(5, straight, MOST), MOST ** 5)
        self.assertEqual(pairs_just_so(2, (0, 1, 2, 0), MOST), MOST * (MOST - 1) * (MOST - 2))
        self.assertEqual(pairs_just_so(2, (0, 1, 2, 0), 2), 0)
        last = ((MOST - 1,) * 5,) * 2
        self.assertEqual(pair_numbered(5, apart, MOST, MOST ** 10 - 1), last)
        self.assertEqual(number_of_pair(5, apart, MOST, *last), MOST ** 10 - 1)
        self.assertEqual(told_of(pair_numbered, 5, apart, MOST, MOST ** 10), (BadNumber, (MOST ** 10,)))
        self.assertEqual(pair_numbered(2, (0, 1, 1, 2), MOST, 5 * MOST * MOST + 6 * MOST + 7), ((5, 6), (6, 7)))
        self.assertEqual(bottoms_for(5, apart, MOST, (1,) * 5), MOST ** 5)
        self.assertEqual(bottoms_for(2, (0, 0, 1, 1), MOST, (1, 2)), 0)
        self.assertEqual(least_bottom(3, (0, 1, 2, 1, 3, 0), MOST, (8, 9, 7)), (9, 0, 8))
        self.assertEqual(pair_numbered(5, apart, 1, 0), ((0,) * 5,) * 2)


class Ways(unittest.TestCase):
    def test_ways_by_going_through_all(self):
        for cords, many, most in [(1, 1, 6), (1, 2, 6), (1, 3, 4), (2, 2, 4), (2, 3, 3), (3, 2, 3)]:
            for row in some_rows(cords, most):
                for top, bottom in pairs(cords, many)[::1 if cords < 3 else 5]:
                    found = ways_by_hand(cords, row, many, top, bottom)
                    self.assertEqual(ways(cords, row, many, top, bottom), len(found))
                    for number, way in enumerate(found):
                        self.assertEqual(inner_way(cords, row, many, top, bottom, number), way)
                        self.assertEqual(number_of_way(cords, row, many, top, bottom, way), number)
                    told = told_of(inner_way, cords, row, many, top, bottom, len(found))
                    self.assertEqual(told, (BadNumber, (len(found),)))

    def test_what_is_no_inner_way(self):
        hook = ("hook", 0)
        for row in [(hook,) * 3, (("swap", 0), hook, ("cut", 1)), (hook, ("join", 0)), (), (hook,)]:
            for top, bottom in pairs(2, 2):
                found = ways_by_hand(2, row, 2, top, bottom)
                for length in range(4):
                    for way in itertools.product(colourings(2, 2), repeat=length):
                        expected = found.index(way) if way in found else (BadColours, ("way",))
                        self.assertEqual(told_of(number_of_way, 2, row, 2, top, bottom, way), expected)
        wrong = [None, [], ((0, 0),), [(0, 0), (0, 0)], ((0, 0), None), ((0, 0), (0, 2)), ((0, 0), (0, True)), "ab", 3,
                 ((0, 0), (0, 0), (0, 0)), ((0, 0), (0,)), ((0, 0), [0, 0]), ((0, False), (0, 0)), (0, 0), ((0, 0), (0, -1))]
        for way in wrong:
            told = told_of(number_of_way, 2, (hook,) * 3, 2, (0, 0), (0, 0), way)
            self.assertEqual(told, (BadColours, ("way",)), way)
        self.assertEqual(number_of_way(2, (hook,) * 3, 2, (0, 0), (0, 0), ((0, 0), (1, 1))), 1)

    def test_rows_without_deeds_and_of_one(self):
        self.assertEqual(ways(2, (), 5, (3, 4), (3, 4)), 1)
        self.assertEqual(inner_way(2, (), 5, (3, 4), (3, 4), 0), ())
        self.assertEqual(number_of_way(2, (), 5, (3, 4), (3, 4), ()), 0)
        self.assertEqual(ways(2, (), 5, (3, 4), (4, 3)), 0)
        self.assertEqual(told_of(inner_way, 2, (), 5, (3, 4), (4, 3), 0), (BadNumber, (0,)))
        self.assertEqual(told_of(number_of_way, 2, (), 5, (3, 4), (4, 3), ()), (BadColours, ("way",)))
        swap = (("swap", 0),)
        self.assertEqual(inner_way(2, swap, 5, (3, 4), (4, 3), 0), ())
        self.assertEqual(number_of_way(2, swap, 5, (3, 4), (4, 3), ()), 0)
        self.assertEqual(told_of(number_of_way, 2, swap, 5, (3, 4), (3, 4), ()), (BadColours, ("way",)))
        self.assertEqual(told_of(number_of_way, 2, (), 5, (3, 4), (3, 4), ((3, 4),)), (BadColours, ("way",)))

    def test_very_many_ways(self):
        row = (("cut", 0), ("cut", 2)) + (("hook", 1),) * 19 + (("join", 3),) + (("cut", 4),) * 18
        many = ways(5, row, MOST, (0,) * 5, (0,) * 5)
        self.assertEqual(many, MOST ** brute.row_told(5, row)[1])
        for number in (0, 1, MOST, many // 3, many - 1):
            way = inner_way(5, row, MOST, (0,) * 5, (0,) * 5, number)
            self.assertEqual(len(way), 39)
            self.assertEqual(number_of_way(5, row, MOST, (0,) * 5, (0,) * 5, way), number)
            levels = ((0,) * 5,) + way + ((0,) * 5,)
            for deed, near, far in zip(row, levels, levels[1:]):
                self.assertTrue(is_let(brute.deed_figure(5, deed), near + far))
        for number in (many, -1, True, None, "0"):
            self.assertEqual(told_of(inner_way, 5, row, MOST, (0,) * 5, (0,) * 5, number), (BadNumber, (number,)))

    def test_the_documents_example(self):
        self.assertEqual(ways(2, (("hook", 0), ("hook", 0)), 7, (3, 3), (5, 5)), 7)
        self.assertEqual(inner_way(2, (("hook", 0), ("hook", 0)), 7, (3, 3), (5, 5), 4), ((4, 4),))


class Apart(unittest.TestCase):
    def test_first_pair_apart_by_going_through_all(self):
        for cords, many in [(1, 1), (1, 2), (1, 3), (2, 1), (2, 2), (2, 3), (3, 2)]:
            rows = some_rows(cords, 3, 10)
            for row, far_row in itertools.product(rows, repeat=2):
                figure, left = brute.row_told(cords, row)
                far_figure, far_left = brute.row_told(cords, far_row)
                told = None
                for pair in pairs(cords, many):
                    colours = pair[0] + pair[1]
                    near = many ** left if is_let(figure, colours) else 0
                    far = many ** far_left if is_let(far_figure, colours) else 0
                    if near != far:
                        told = pair
                        break
                self.assertEqual(first_apart(cords, row, far_row, many), told)
                alike = (figure, left) == (far_figure, far_left)
                self.assertIs(told is None, many == 1 or alike)

    def test_counts_of_ways_are_unlike_there(self):
        for cords in (4, 5):
            rows = brute.some_rows(cords, 30, 9, seed=21)
            for row, far_row in zip(rows, rows[1:]):
                for many in (2, 5, MOST):
                    pair = first_apart(cords, row, far_row, many)
                    if pair is not None:
                        self.assertNotEqual(ways(cords, row, many, *pair), ways(cords, far_row, many, *pair))
                        self.assertLessEqual(set(pair[0] + pair[1]), {0, 1})
                self.assertIsNone(first_apart(cords, row, far_row, 1))
                self.assertIsNone(first_apart(cords, row, row, MOST))

    def test_unlike_leftovers(self):
        hook = ("hook", 0)
        self.assertEqual(first_apart(2, (hook,), (hook, hook), 2), ((0, 0), (0, 0)))
        self.assertEqual(first_apart(2, (), (hook, hook), MOST), ((0, 0), (0, 0)))
        self.assertEqual(first_apart(2, (("cut", 0),), (), 2), ((0, 0), (1, 0)))


class Refusals(unittest.TestCase):
    def test_quantities(self):
        hook = (("hook", 0),)
        calls = [
            lambda many: lets(2, (0, 0, 1, 1), many, None, None),
            lambda many: lets_just_so(2, (0, 0, 1, 1), many, None, None),
            lambda many: pairs_let(2, (0, 0, 1, 1), many), lambda many: pairs_just_so(2, (0, 0, 1, 1), many),
            lambda many: bottoms_for(2, (0, 0, 1, 1), many, None), lambda many: least_bottom(2, (0, 0, 1, 1), many, None),
            lambda many: pair_numbered(2, (0, 0, 1, 1), many, None),
            lambda many: number_of_pair(2, (0, 0, 1, 1), many, None, None), lambda many: ways(2, hook, many, None, None),
            lambda many: inner_way(2, hook, many, None, None, None),
            lambda many: number_of_way(2, hook, many, None, None, None), lambda many: first_apart(2, hook, (), many),
        ]
        for call in calls:
            for wrong in (0, -1, MOST + 1, True, False, None, "2", (2,), 10 ** 999):
                self.assertEqual(told_of(call, wrong), (BadNumber, (wrong,)))

    def test_colours(self):
        for top, number in [((0, 0, 0), None), ((0,), None), ([0, 0], None), (None, None), ((2, 2), 0), ((0, 2), 1),
                            ((True, 0), 0), ((0, False), 1), ((0, -1), 1), ((0, None), 1), ("00", None)]:
            told = told_of(lets, 2, (0, 0, 1, 1), 2, top, None)
            self.assertEqual(told, (BadColours, (number,)))
            self.assertEqual(told_of(lets, 2, (0, 0, 1, 1), 2, (1, 1), top), (BadColours, (number,)))
            self.assertEqual(told_of(bottoms_for, 2, (0, 0, 1, 1), 2, top), (BadColours, (number,)))
            self.assertEqual(told_of(ways, 2, (), 2, top, None), (BadColours, (number,)))
            self.assertEqual(told_of(number_of_way, 2, (), 2, (0, 0), top, None), (BadColours, (number,)))
            self.assertEqual(told_of(number_of_pair, 2, (0, 0, 1, 1), 2, (0, 1), top), (BadColours, (number,)))
            self.assertEqual(told_of(inner_way, 2, (), 2, (0, 0), top, None), (BadColours, (number,)))
        self.assertEqual(told_of(number_of_pair, 2, (0, 0, 1, 1), 2, (0, 1), (0, 0)), (BadColours, ("let",)))
        self.assertEqual(lets(2, (0, 0, 1, 1), MOST, (MOST - 1,) * 2, (0, 0)), True)
        self.assertEqual(told_of(lets, 2, (0, 0, 1, 1), MOST, (MOST,) * 2, (0, 0)), (BadColours, (0,)))

    def test_figures_and_rows_come_first(self):
        self.assertEqual(told_of(lets, 2, (0, 0, 1, 3), 0, None, None), (BadFigure, (3,)))
        self.assertEqual(told_of(ways, 2, (("hook", 1),), 0, None, None), (BadRow, (0,)))
        self.assertEqual(told_of(first_apart, 2, (("hook", 0),), (("cut", 2),), 0), (BadRow, (0,)))
        self.assertEqual(told_of(first_apart, 2, (("cut", 0),) * 41, (("cut", 2),), 0), (BadRow, (None,)))
        self.assertEqual(told_of(pairs_let, 6, None, None), (BadCords, (6,)))

    def test_numbers_of_pairs(self):
        for wrong in (-1, 4, True, False, None, "0", (0,), 10 ** 999):
            self.assertEqual(told_of(pair_numbered, 2, (0, 0, 1, 1), 2, wrong), (BadNumber, (wrong,)))
