"""Flatness: [40], [41], by taking pieces off and by trying all rows of swaps, and the order of refusals there."""

import itertools
import math
import unittest

from hookedcords.errors import BadCords, BadFigure, BadNumber, BadPaper, TooGreat
from hookedcords.flatness import (
    by_exchanges, check_flattening, crossing_pairs, exchanges_of, flat_by_rank, flat_half_count, flat_halves,
    flattening, is_flat, is_flat_half, most_crooked,
)
from hookedcords.halves import all_halves, lower_half, meeting_of, upper_half
from tests import brute
from tests.brute import told_of

CROSSED = (0, 1, 1, 0)


def swap_rows(cords, most):
    return list(brute.rows_up_to(cords, ("swap",), most))


def crosses(ring, one, other):
    """Whether two numbers come as one, other, one, other when gone through in order, whichever is first."""
    order = [piece for piece in ring if piece in (one, other)]
    return len(list(itertools.groupby(order))) >= 4


def is_half_flat(half):
    pieces, opened = half
    for one, other in itertools.combinations(range(max(pieces) + 1), 2):
        if crosses(pieces, one, other):
            return False
    for piece in opened:
        for place, there in enumerate(pieces):
            for low, far in itertools.combinations(range(len(pieces)), 2):
                if there == piece and pieces[low] == pieces[far] != piece and low < place < far:
                    return False
    return True


def choose(many, some):
    return 0 if some < 0 else math.comb(many, some)


def mirrored(cords, figure):
    return brute.by_labels(figure[:cords][::-1] + figure[cords:][::-1])


def by_trying(cords, most):
    """For each figure its first flattening, with the fewest deeds: by trying all rows of at most so many swaps."""
    rows = [(row, brute.row_told(cords, row)[0]) for row in swap_rows(cords, most)]
    found = {}
    for flat in brute.all_figures(cords):
        if brute.is_flat(cords, flat):
            for (row, above), (far_row, below) in itertools.product(rows, repeat=2):
                figure = brute.upon(cords, above, flat, below)
                key = (len(row) + len(far_row), row, far_row, flat)
                found[figure] = min(found.get(figure, key), key)
    return found


class Flat(unittest.TestCase):
    def test_flat_by_taking_pieces_off(self):
        for cords in range(1, 6):
            for figure in brute.all_figures(cords)[::1 if cords < 4 else 5] if cords < 5 else brute.some_figures(5, 900):
                flat = brute.is_flat(cords, figure)
                self.assertIs(is_flat(cords, figure), flat)
                self.assertIs(crossing_pairs(cords, figure) == (), flat)
                halves = is_flat_half(cords, upper_half(cords, figure)) and is_flat_half(cords, lower_half(cords, figure))
                meeting = meeting_of(cords, figure)
                self.assertIs(halves and meeting == tuple(sorted(meeting)), flat)

    def test_crossing_pairs(self):
        for cords in range(1, 6):
            for figure in brute.all_figures(cords) if cords < 4 else brute.some_figures(cords, 300):
                ring = [figure[point] for point in brute.ring(cords)]
                told = tuple(
                    (one, other) for one, other in itertools.combinations(range(max(figure) + 1), 2)
                    if crosses(ring, one, other))
                self.assertEqual(crossing_pairs(cords, figure), told)
        self.assertEqual(crossing_pairs(3, (0, 1, 2, 2, 1, 0)), ((0, 1), (0, 2), (1, 2)))

    def test_flat_halves(self):
        for cords in range(1, 6):
            for number in range(cords + 1):
                halves = tuple(half for half in all_halves(cords, number) if is_half_flat(half))
                self.assertEqual(flat_halves(cords, number), halves)
                many = choose(2 * cords, cords - number) - choose(2 * cords, cords - number - 1)
                self.assertEqual(flat_half_count(cords, number), many)
                self.assertEqual(len(halves), many)
                for half in all_halves(cords, number):
                    self.assertIs(is_flat_half(cords, half), half in halves)

    def test_an_open_piece_below_another_one_is_not_flat(self):
        self.assertIs(is_flat_half(3, ((0, 1, 0), ())), True)
        self.assertIs(is_flat_half(3, ((0, 1, 0), (0,))), True)
        self.assertIs(is_flat_half(3, ((0, 1, 0), (1,))), False)
        self.assertIs(is_flat_half(4, ((0, 1, 0, 1), ())), False)

    def test_flat_by_rank(self):
        for cords in range(1, 5):
            ranks = [len(brute.through(cords, one)) for one in brute.all_figures(cords) if brute.is_flat(cords, one)]
            self.assertEqual(flat_by_rank(cords), tuple(ranks.count(rank) for rank in range(cords + 1)))
        self.assertEqual(flat_by_rank(5), tuple(flat_half_count(5, rank) ** 2 for rank in range(6)))
        self.assertEqual(sum(flat_by_rank(5)), 16796)


class Exchanges(unittest.TestCase):
    def test_flattenings_by_trying_all_rows(self):
        for cords, most in ((1, 2), (2, 3), (3, 4)):
            found = by_trying(cords, most)
            self.assertEqual(sorted(found), brute.all_figures(cords))
            counts = [key[0] for key in found.values()]
            self.assertEqual(by_exchanges(cords), tuple(counts.count(many) for many in range(max(counts) + 1)))
            crooked = sorted(figure for figure, key in found.items() if key[0] == max(counts))
            self.assertEqual(most_crooked(cords), tuple(crooked))
            for figure, (many, row, far_row, flat) in found.items():
                self.assertEqual(exchanges_of(cords, figure), many)
                self.assertEqual(flattening(cords, figure), (row, flat, far_row))
                self.assertEqual(check_flattening(cords, figure, (row, flat, far_row)), many)

    def test_flattenings_of_four_cords_by_trying_all_rows(self):
        rows = [(row, brute.row_told(4, row)[0]) for row in swap_rows(4, 3)]
        turned = {row: brute.row_told(4, row[::-1])[0] for row, _ in rows}
        tried = 0
        for figure in brute.all_figures(4)[::29]:
            many = exchanges_of(4, figure)
            if many > 3:
                continue
            keys = []
            for (row, _), (far_row, _) in itertools.product(rows, repeat=2):
                if len(row) + len(far_row) <= many:
                    flat = brute.upon(4, turned[row], figure, turned[far_row])
                    if brute.is_flat(4, flat):
                        keys.append((len(row) + len(far_row), row, far_row, flat))
            least = min(keys)
            self.assertEqual((least[0], (least[1], least[3], least[2])), (many, flattening(4, figure)))
            tried += 1
        self.assertGreater(tried, 100)

    def test_facts_of_exchanges(self):
        for cords in (2, 3, 4, 5):
            shapes = [brute.deed_figure(cords, deed) for deed in brute.deeds_of(cords, ("swap",))]
            for figure in brute.some_figures(cords, 40 if cords < 5 else 12):
                many = exchanges_of(cords, figure)
                self.assertIs(many == 0, brute.is_flat(cords, figure))
                self.assertEqual(exchanges_of(cords, brute.over(cords, figure)), many)
                self.assertEqual(exchanges_of(cords, mirrored(cords, figure)), many)
                for shape in shapes:
                    for far in (brute.upon(cords, shape, figure), brute.upon(cords, figure, shape)):
                        self.assertLessEqual(abs(exchanges_of(cords, far) - many), 1)
                row, flat, far_row = flattening(cords, figure)
                self.assertEqual(len(row) + len(far_row), many)
                self.assertTrue(brute.is_flat(cords, flat))
                above, below = brute.row_told(cords, row)[0], brute.row_told(cords, far_row)[0]
                self.assertEqual(brute.upon(cords, above, flat, below), figure)
                self.assertEqual(check_flattening(cords, figure, (row, flat, far_row)), many)

    def test_changed_orders(self):
        for cords in (3, 4, 5):
            for order in list(itertools.permutations(range(cords)))[::1 if cords < 5 else 6]:
                turned = [one for one in itertools.combinations(order, 2) if one[0] > one[1]]
                self.assertEqual(exchanges_of(cords, tuple(range(cords)) + order), len(turned))

    def test_the_most_crooked(self):
        self.assertEqual(by_exchanges(2), (14, 1))
        self.assertEqual(most_crooked(2), (CROSSED,))
        self.assertEqual(by_exchanges(1), (2,))
        self.assertEqual(most_crooked(1), ((0, 0), (0, 1)))
        self.assertEqual(sum(by_exchanges(4)), 4140)
        self.assertEqual(by_exchanges(4)[0], 1430)
        self.assertEqual([exchanges_of(4, one) for one in most_crooked(4)], [len(by_exchanges(4)) - 1])

    def test_the_documents_example(self):
        self.assertEqual(flattening(2, CROSSED), ((), (0, 1, 0, 1), (("swap", 0),)))

    def test_rows_above_where_rows_below_do_not_do(self):
        # Both top pieces cross, and only swaps above part them.
        figure = (0, 1, 0, 1, 2, 3, 4, 5)
        self.assertEqual(exchanges_of(4, figure), 1)
        row, flat, far_row = flattening(4, figure)
        self.assertEqual((row, far_row), ((("swap", 0),), ()))
        self.assertEqual(flat, (0, 1, 1, 0, 2, 3, 4, 5))


class Papers(unittest.TestCase):
    def test_the_first_word_that_applies(self):
        swap = ("swap", 0)

        def check(*paper):
            return told_of(check_flattening, 2, CROSSED, tuple(paper))

        straight = (0, 1, 0, 1)
        self.assertEqual(check((), straight, (swap,)), 1)
        self.assertEqual(check((swap,), straight, ()), 1)
        self.assertEqual(check((swap,) * 40, straight, (swap,) * 39), 79)
        for row in [None, [swap], (swap,) * 41, (("cut", 0),), (("hook", 0),), (("swap", 1),), (("swap", True),), swap,
                    (("swap", False),), (["swap", 0],), "swap"]:
            self.assertEqual(check(row, None, None), (BadPaper, ("row",)))
            self.assertEqual(check(row, straight, ()), (BadPaper, ("row",)))
            self.assertEqual(check((), straight, row), (BadPaper, ("far row",)))
            self.assertEqual(check((), CROSSED, row), (BadPaper, ("flat",)))
        for flat in [None, CROSSED, (0, 1, 0), (0, 1, 0, True), [0, 1, 0, 1], (0, 1, 3, 3), (0, 0), 0]:
            self.assertEqual(check((swap,), flat, ()), (BadPaper, ("flat",)))
        self.assertEqual(check((), straight, ()), (BadPaper, ("figure",)))
        self.assertEqual(check((swap,), straight, (swap,)), (BadPaper, ("figure",)))
        for paper in [(), ((),), ((), straight), ((), straight, (), ()), None, [(), straight, ()], "abc", 3]:
            self.assertEqual(told_of(check_flattening, 2, CROSSED, paper), (BadPaper, ("form",)))

    def test_refusals(self):
        self.assertEqual(told_of(check_flattening, 2, (0, 1, 1), None), (BadFigure, (None,)))
        self.assertEqual(told_of(check_flattening, 0, None, None), (BadCords, (0,)))
        for call in (by_exchanges, most_crooked):
            self.assertEqual(told_of(call, 5), (TooGreat, (5000,)))
            self.assertEqual(told_of(call, 6), (BadCords, (6,)))
            self.assertEqual(told_of(call, True), (BadCords, (True,)))
        for call in (flat_halves, flat_half_count):
            for wrong in (-1, 4, True, None, "2"):
                self.assertEqual(told_of(call, 3, wrong), (BadNumber, (wrong,)))
        self.assertEqual(told_of(is_flat_half, 2, ((0, 1), (2,))), (BadFigure, ("open",)))
        for call in (is_flat, crossing_pairs, exchanges_of, flattening):
            self.assertEqual(told_of(call, 2, (0, 1, 2, True)), (BadFigure, (3,)))
