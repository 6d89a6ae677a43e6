"""Classes: [31], [33], worked out from products of all figures of a family, and the order of refusals there."""

import functools
import unittest

from hookedcords.classes import (
    bottom_lot, box_of, box_table, boxes, boxes_below, cell_of, crowns_of, is_turning, still_of, top_lot,
)
from hookedcords.errors import BadCords, BadFamily, BadFigure, TooGreat
from tests import brute
from tests.brute import figures_of, over, told_of, upon

STRAIGHT = (0, 1, 2, 3, 4) * 2
CROSSED = (0, 1, 2, 3, 4, 1, 0, 2, 3, 4)
WITH_FIGURE = (top_lot, bottom_lot, box_of, cell_of, box_table, is_turning, still_of)
WITH_FAMILY = (crowns_of, boxes, boxes_below)
SMALL = list(brute.small_families(76))
ALL_FIVE = (brute.WORDS, ("cut", "join"), ("cut", "hook", "join"), ("cut", "hook", "swap"),
            ("cut", "join", "swap"), ("hook", "join", "swap"))


class Leads:
    """What leads where in a family, by all products of its figures."""

    def __init__(self, cords, family):
        self.cords = cords
        self.figures = figures_of(cords, family)
        self.down = {one: {upon(cords, one, two) for two in self.figures} for one in self.figures}
        self.up = {one: {upon(cords, two, one) for two in self.figures} for one in self.figures}
        self.on = {one: set().union(*[self.up[two] for two in self.down[one]]) for one in self.figures}

    def lot(self, leads, figure):
        return tuple(one for one in self.figures if one in leads[figure] and figure in leads[one])

    def cell(self, figure):
        bottom = self.lot(self.up, figure)
        return tuple(one for one in self.lot(self.down, figure) if one in bottom)

    def still(self, figure):
        """The figures of its cell that stay."""
        return [one for one in self.cell(figure) if upon(self.cords, one, one) == one]

    def boxes(self):
        return sorted({self.lot(self.on, figure) for figure in self.figures})

    def crowns(self):
        return [one for one in self.figures if upon(self.cords, one, over(self.cords, one)) == one]


@functools.lru_cache(maxsize=None)
def leads(cords, family):
    return Leads(cords, family)


class Lots(unittest.TestCase):
    def test_lots_boxes_and_cells_by_all_products(self):
        for cords, family in SMALL:
            told = leads(cords, family)
            for figure in told.figures[::1 if len(told.figures) < 35 else 7]:
                self.assertEqual(top_lot(cords, family, figure), told.lot(told.down, figure))
                self.assertEqual(bottom_lot(cords, family, figure), told.lot(told.up, figure))
                self.assertEqual(box_of(cords, family, figure), told.lot(told.on, figure))
                self.assertEqual(cell_of(cords, family, figure), told.cell(figure))

    def test_crowns(self):
        for cords, family in SMALL:
            self.assertEqual(crowns_of(cords, family), tuple(leads(cords, family).crowns()))

    def test_boxes_are_made_of_lots_and_of_cells_of_one_size(self):
        for cords, family in SMALL:
            told = leads(cords, family)
            rows = []
            for box in told.boxes():
                tops = {told.lot(told.down, figure) for figure in box}
                bottoms = {told.lot(told.up, figure) for figure in box}
                sizes = {len(set(top) & set(bottom)) for top in tops for bottom in bottoms}
                self.assertEqual(len(sizes), 1)
                crowns = [one for one in told.crowns() if one in box]
                self.assertEqual((len(tops), len(bottoms)), (len(crowns), len(crowns)))
                rows.append((box[0], len(crowns), sizes.pop()))
            self.assertEqual(boxes(cords, family), tuple(sorted(rows)))

    def test_lots_of_a_greater_family(self):
        for cords, family in [(4, ("hook", "swap")), (4, ("cut", "hook")), (5, ("join",)), (5, ("cut",))]:
            figures = figures_of(cords, family)
            for figure in figures[::19]:
                crown, base = upon(cords, figure, over(cords, figure)), upon(cords, over(cords, figure), figure)
                tops = tuple(one for one in figures if upon(cords, one, over(cords, one)) == crown)
                bottoms = tuple(one for one in figures if upon(cords, over(cords, one), one) == base)
                self.assertEqual(top_lot(cords, family, figure), tops)
                self.assertEqual(bottom_lot(cords, family, figure), bottoms)
                self.assertEqual(cell_of(cords, family, figure), tuple(one for one in tops if one in bottoms))

    def test_the_documents_example(self):
        self.assertEqual(boxes(2, ("hook", "swap")), (((0, 0, 1, 1), 1, 1), ((0, 1, 0, 1), 1, 2)))

    def test_great_families(self):
        # Five cords of cuts and swaps: as many crowns of a rank as ways to choose the cut places.
        self.assertEqual([(many, size) for _, many, size in sorted(boxes(5, ("cut", "swap")), key=lambda one: -one[2])], [
            (1, 120), (5, 24), (10, 6), (10, 2), (5, 1), (1, 1)])
        self.assertEqual(sorted((size, many) for _, many, size in boxes(4, brute.WORDS)), [
            (1, 15), (1, 37), (2, 31), (6, 10), (24, 1)])
        self.assertEqual(boxes(5, ("swap",)), ((tuple(range(5)) * 2, 1, 120),))


class Below(unittest.TestCase):
    def test_next_below_by_all_products(self):
        for cords, family in SMALL:
            told = leads(cords, family)
            all_boxes = told.boxes()
            below = [
                {at for at, far in enumerate(all_boxes) if far != box and far[0] in told.on[box[0]]} for box in all_boxes
            ]
            rows = [
                tuple(sorted(at for at in under if not any(at in below[third] for third in under))) for under in below
            ]
            self.assertEqual(boxes_below(cords, family), tuple(rows))

    def test_chains_of_boxes(self):
        # By all four words the boxes are the ranks, each next below the one above.
        firsts = [one for one, _, _ in boxes(4, brute.WORDS)]
        ranks = [len(brute.through(4, one)) for one in firsts]
        rows = boxes_below(4, brute.WORDS)
        self.assertEqual(rows, tuple(tuple(at for at, far in enumerate(ranks) if far == rank - 1) for rank in ranks))
        # Cuts alone: below a set of cut places is each set with one place more.
        crowns = crowns_of(5, ("cut",))
        cut = [{place for place in range(5) if one[place] != one[5 + place]} for one in crowns]
        for at, under in enumerate(boxes_below(5, ("cut",))):
            self.assertEqual(under, tuple(far for far in range(32) if cut[far] > cut[at] and len(cut[far] - cut[at]) == 1))


class Turning(unittest.TestCase):
    def test_turning_cells_have_one_figure_that_stays(self):
        for cords, family in SMALL:
            told = leads(cords, family)
            for figure in told.figures:
                still = told.still(figure)
                self.assertLessEqual(len(still), 1)
                self.assertIs(is_turning(cords, family, figure), len(still) == 1)
                self.assertEqual(still_of(cords, family, figure), still[0] if still else None)

    def test_tables_by_all_products(self):
        for cords, family in SMALL:
            told = leads(cords, family)
            for box in told.boxes():
                crowns = tuple(one for one in told.crowns() if one in box)
                cells = {}
                for one in box:
                    cells[upon(cords, one, over(cords, one)), upon(cords, over(cords, one), one)] = one
                rows = tuple(tuple(bool(told.still(cells[top, bottom])) for bottom in crowns) for top in crowns)
                self.assertEqual(box_table(cords, family, box[-1]), (crowns, rows))

    def test_tables_are_not_always_turning_throughout(self):
        crowns, rows = box_table(2, ("cut", "swap"), (0, 1, 0, 2))
        self.assertEqual((crowns, rows), (((0, 1, 0, 2), (0, 1, 2, 1)), ((True, False), (False, True))))
        crowns, rows = box_table(4, ("hook",), (0, 0, 1, 2, 1, 2, 3, 3))
        self.assertEqual(len(crowns), 3)
        self.assertTrue(all(row[at] is True for at, row in enumerate(rows)))
        self.assertIn(False, [one for row in rows for one in row])

    def test_turning_in_families_of_any_size(self):
        hooked = (0, 0, 1, 2, 3, 1, 2, 3, 4, 4)
        for figure in brute.some_figures(5, 60) + [STRAIGHT, CROSSED, hooked, tuple(range(10)), (0,) * 10]:
            twice = upon(5, figure, figure)
            crown, base = upon(5, figure, over(5, figure)), upon(5, over(5, figure), figure)
            turning = (upon(5, twice, over(5, twice)), upon(5, over(5, twice), twice)) == (crown, base)
            for family in ALL_FIVE:
                if brute.belongs(5, family, figure):
                    self.assertIs(is_turning(5, family, figure), turning)
                    still = still_of(5, family, figure)
                    self.assertEqual(still is None, not turning)
                    if turning:
                        self.assertEqual(upon(5, still, still), still)
                        self.assertEqual((upon(5, still, over(5, still)), upon(5, over(5, still), still)), (crown, base))
        self.assertIs(is_turning(5, brute.WORDS, hooked), False)
        self.assertEqual(still_of(5, brute.WORDS, CROSSED), STRAIGHT)

    def test_still_figures_by_a_whole_cell(self):
        for figure in brute.some_figures(4, 12):
            cell = cell_of(4, brute.WORDS, figure)
            self.assertIn(figure, cell)
            still = [one for one in cell if upon(4, one, one) == one]
            self.assertEqual(still_of(4, brute.WORDS, figure), still[0] if still else None)


class Refusals(unittest.TestCase):
    def test_too_great(self):
        for family in ALL_FIVE:
            for call in WITH_FAMILY:
                self.assertEqual(told_of(call, 5, family), (TooGreat, (5000,)))
            for call in (top_lot, bottom_lot, box_of, cell_of, box_table):
                self.assertEqual(told_of(call, 5, family, STRAIGHT), (TooGreat, (5000,)))
        for call in WITH_FIGURE:
            self.assertEqual(told_of(call, 5, ("cut", "join"), CROSSED), (BadFigure, ("family",)))
            self.assertEqual(told_of(call, 5, ("cut", "join"), CROSSED[:9]), (BadFigure, (None,)))
            self.assertEqual(told_of(call, 2, ("cut", "hook"), (0, 0, 0, 1)), (BadFigure, ("family",)))
            self.assertEqual(told_of(call, 2, ("hook", "cut"), (0, 0, 0, 3)), (BadFamily, (1,)))
            self.assertEqual(told_of(call, True, (), None), (BadCords, (True,)))

    def test_one_cord_without_deeds(self):
        for family in brute.FAMILIES:
            if "cut" not in family:
                self.assertEqual(boxes(1, family), (((0, 0), 1, 1),))
                self.assertEqual(boxes_below(1, family), ((),))
                self.assertEqual(box_table(1, family, (0, 0)), (((0, 0),), ((True,),)))
                self.assertEqual(still_of(1, family, (0, 0)), (0, 0))
                self.assertEqual(told_of(top_lot, 1, family, (0, 1)), (BadFigure, ("family",)))
            else:
                self.assertEqual(boxes(1, family), (((0, 0), 1, 1), ((0, 1), 1, 1)))
                self.assertEqual(boxes_below(1, family), ((1,), ()))
