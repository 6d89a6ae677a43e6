"""Turns: [43], [44], by all products of figures of small families, and the order of refusals there."""

import functools
import itertools
import unittest

from hookedcords.errors import BadCords, BadFamily, BadFigure, BadPaper, TooGreat
from hookedcords.turns import (
    are_of_one_lot, check_turn_paper, is_turn, lot_rounds, turn_halves, turn_lots, turn_paper,
)
from tests import brute
from tests.brute import figures_of, told_of, upon

STRAIGHT = (0, 1, 2, 3, 4) * 2
CROSSED = (0, 1, 2, 3, 4, 1, 0, 2, 3, 4)
SMALL = list(brute.small_families(34))
WITH_TWO = (turn_halves, is_turn, are_of_one_lot, turn_paper)


@functools.lru_cache(maxsize=None)
def turns_in(cords, family):
    """A dict: for each two figures, the one a turn of the other, the least pair by which it is."""
    found = {}
    for one, two in itertools.product(figures_of(cords, family), repeat=2):
        found.setdefault((upon(cords, one, two), upon(cords, two, one)), (one, two))
    return found


@functools.lru_cache(maxsize=None)
def lots_in(cords, family):
    """The lots of turns, by turns of any two figures."""
    lots = brute.components(figures_of(cords, family), list(turns_in(cords, family)))
    return tuple(sorted(tuple(sorted(lot)) for lot in lots))


def rounds_of(cords, figure):
    """The lengths of the rounds of the exchange within, by its powers: how many pieces are back where they were."""
    still = figure
    while upon(cords, still, still) != still:
        still = upon(cords, still, figure)
    through = brute.through(cords, still)
    lengths = []
    for piece in through:
        whole, many = still, 0
        while True:
            whole, many = upon(cords, whole, figure), many + 1
            tops = [point for point in range(cords) if still[point] == piece]
            bottoms = [point for point in range(cords, 2 * cords) if still[point] == piece]
            if whole[tops[0]] == whole[bottoms[0]]:
                break
        lengths.append(many)
    # A round of so many pieces is told once for each of them.
    return tuple(length for length in sorted(set(lengths)) for _ in range(lengths.count(length) // length))


class Turns(unittest.TestCase):
    def test_turns_by_all_products(self):
        for cords, family in SMALL:
            found = turns_in(cords, family)
            pairs = list(itertools.product(figures_of(cords, family), repeat=2))
            for figure, other in pairs[::1 if len(pairs) < 300 else 5]:
                self.assertEqual(turn_halves(cords, family, figure, other), found.get((figure, other)))
                self.assertIs(is_turn(cords, family, figure, other), (figure, other) in found)

    def test_turns_of_greater_families(self):
        for cords, family in [(3, brute.WORDS), (4, ("hook", "swap")), (3, ("cut", "join"))]:
            found = turns_in(cords, family)
            figures = figures_of(cords, family)
            pairs = list(zip(figures[::3], figures[1::5])) + list(found)[::401] + [(one, one) for one in figures[::40]]
            for figure, other in pairs:
                self.assertEqual(turn_halves(cords, family, figure, other), found.get((figure, other)))

    def test_lots_by_turns_of_any_two_figures(self):
        for cords, family in SMALL + [(3, brute.WORDS), (3, ("cut", "hook", "swap")), (3, ("cut", "join"))]:
            lots = lots_in(cords, family)
            self.assertEqual(turn_lots(cords, family), lots)
            number = {figure: at for at, lot in enumerate(lots) for figure in lot}
            figures = figures_of(cords, family)
            for figure, other in list(itertools.product(figures, repeat=2))[::1 if len(figures) < 12 else 37 if len(figures) < 40 else 1501]:
                told = number[figure] == number[other]
                self.assertIs(are_of_one_lot(cords, family, figure, other), told)

    def test_rounds(self):
        for cords, family in SMALL + [(3, brute.WORDS), (4, ("swap",)), (5, ("swap",)), (4, ("cut", "swap"))]:
            lots = turn_lots(cords, family)
            told = lot_rounds(cords, family)
            self.assertEqual(len(told), len(lots))
            for lot, lengths in zip(lots, told):
                for figure in lot[::1 if len(lot) < 20 else 7]:
                    self.assertEqual(rounds_of(cords, figure), lengths)
        self.assertEqual(sorted(lot_rounds(5, ("swap",))), [
            (1, 1, 1, 1, 1), (1, 1, 1, 2), (1, 1, 3), (1, 2, 2), (1, 4), (2, 3), (5,)])

    def test_the_documents_example(self):
        self.assertEqual(lot_rounds(3, ("swap",)), ((1, 1, 1), (1, 2), (3,)))
        neighbours = [(0, 1, 2, 1, 0, 2), (0, 1, 2, 0, 2, 1)]
        self.assertIs(are_of_one_lot(3, ("swap",), *neighbours), True)
        self.assertTrue(set(neighbours) <= set(turn_lots(3, ("swap",))[1]))

    def test_one_cord_without_deeds(self):
        for family in brute.FAMILIES:
            if "cut" not in family:
                self.assertEqual(turn_lots(1, family), (((0, 0),),))
                self.assertEqual(lot_rounds(1, family), ((1,),))
                self.assertEqual(turn_halves(1, family, (0, 0), (0, 0)), ((0, 0), (0, 0)))
                self.assertEqual(turn_paper(1, family, (0, 0), (0, 0)), ("steps", ()))
        self.assertEqual(lot_rounds(1, ("cut",)), ((1,), ()))


class Papers(unittest.TestCase):
    def check_told(self, cords, family, figure, other):
        paper = turn_paper(cords, family, figure, other)
        one_lot = are_of_one_lot(cords, family, figure, other)
        self.assertEqual(paper[0], "steps" if one_lot else "closed")
        self.assertIs(check_turn_paper(cords, family, figure, other, paper), one_lot)
        if one_lot:
            here = figure
            for deed, one, is_back in paper[1]:
                shape = brute.deed_figure(cords, deed)
                ends = [upon(cords, shape, one), upon(cords, one, shape)]
                self.assertTrue(deed[0] in family and one in figures_of(cords, family))
                self.assertEqual(here, ends[is_back])
                here = ends[not is_back]
            self.assertEqual(here, other)
        else:
            lot = next(lot for lot in lots_in(cords, family) if figure in lot)
            self.assertTrue(set(lot) <= set(paper[1]) and other not in paper[1])

    def test_told_papers_hold(self):
        for cords, family in SMALL:
            pairs = list(itertools.product(figures_of(cords, family), repeat=2))
            for figure, other in pairs[::1 if len(pairs) < 40 else 17]:
                self.check_told(cords, family, figure, other)
            for figure in figures_of(cords, family):
                self.assertEqual(turn_paper(cords, family, figure, figure), ("steps", ()))

    def test_steps(self):
        family = ("cut", "swap")
        one, two = (0, 1, 2, 1), (0, 1, 0, 2)  # The cut of place 0, and that of place 1.
        swap = (0, 1, 1, 0)

        def check(figure, other, steps):
            return told_of(check_turn_paper, 2, family, figure, other, ("steps", steps))

        # A swap upon X to X upon a swap, X being a cut upon a swap.
        middle = upon(2, swap, one)
        step = (("swap", 0), upon(2, one, swap), False)
        start, end = upon(2, swap, step[1]), upon(2, step[1], swap)
        self.assertEqual((start, end), (two, one))
        back = (("swap", 0), step[1], True)
        self.assertIs(check(two, one, (step,)), True)
        self.assertIs(check(one, two, (back,)), True)
        self.assertIs(check(two, two, (step, back, step, back)), True)
        self.assertIs(check(two, two, ()), True)
        self.assertIs(check(two, one, (step, back) * 200 + (step,)), True)
        bad = (BadPaper, ("steps",))
        self.assertEqual(check(two, one, ()), bad)
        for steps in [
            (back,), (step, step), (step, back), None, [step], step, (None,), (step[:2],), (step + (False,),),
            ((step[0], step[1], 0),), ((step[0], step[1], None),), ((["swap", 0], step[1], False),),
            ((("swap", False), step[1], False),), ((("swap", 1), step[1], False),), ((("hook", 0), step[1], False),),
            ((step[0], (0, 0, 0, 0), False),), ((step[0], list(step[1]), False),), ((step[0], (0, 1, 3, 2), False),),
            ((step[0], middle, False),), (step, None), (list(step),), "steps", 0, True, {},
        ]:
            self.assertEqual(check(two, one, steps), bad, steps)
        self.assertEqual(check(one, two, ((step[0], step[1], 1),)), bad)

    def test_closed(self):
        family = ("cut", "swap")
        lots = lots_in(2, family)
        straight, crossed = (0, 1, 0, 1), (0, 1, 1, 0)
        self.assertIn((straight,), lots)

        def check(figure, other, figures):
            return told_of(check_turn_paper, 2, family, figure, other, ("closed", figures))

        self.assertIs(check(straight, crossed, (straight,)), False)
        rest = tuple(one for one in figures_of(2, family) if one != crossed)
        self.assertIs(check(straight, crossed, rest[::-1]), False)
        bad = (BadPaper, ("closed",))
        for figures in [
            None, (), [straight], straight, (straight, straight), (straight, crossed), (crossed,), (straight, None),
            (straight, (0, 0, 0, 0)), (straight, (0, 1, 3, 2)), (straight, [0, 1, 2, 3]), (straight, (0, 1, False, 1)),
            "closed", 1, True, rest[1:2], ((0, 1, 0, 2),),
        ]:
            self.assertEqual(check(straight, crossed, figures), bad, figures)
        self.assertEqual(check(straight, straight, (straight,)), bad)
        for lot in lots:
            for figure in lot:
                other = next(one for one in figures_of(2, family) if one not in lot)
                self.assertIs(check(figure, other, lot), False)
                if len(lot) > 1:
                    part = tuple(one for one in lot if one != lot[0 if figure != lot[0] else 1])
                    self.assertEqual(check(figure, other, part), bad)

    def test_forms(self):
        for paper in [None, (), "steps", ("steps",), ("steps", (), ()), ["steps", ()], ("Steps", ()), ("row", ()),
                      (("steps",), ()), ("closed",), (None, None), 7, True, ("", ())]:
            told = told_of(check_turn_paper, 2, ("swap",), (0, 1, 0, 1), (0, 1, 0, 1), paper)
            self.assertEqual(told, (BadPaper, ("form",)))


class Refusals(unittest.TestCase):
    def test_too_great(self):
        for call in WITH_TWO:
            for family in (brute.WORDS, ("cut", "join", "swap"), ("hook", "join", "swap")):
                self.assertEqual(told_of(call, 5, family, STRAIGHT, CROSSED), (TooGreat, (5000,)))
            self.assertEqual(told_of(call, 5, ("cut", "join"), STRAIGHT, CROSSED), (BadFigure, ("family",)))
        for call in (turn_lots, lot_rounds):
            self.assertEqual(told_of(call, 5, ("cut", "join")), (TooGreat, (5000,)))
            self.assertEqual(told_of(call, 5, ("join", "cut")), (BadFamily, (1,)))
        for call in (turn_halves, is_turn):
            for cords, family in [(5, ("swap", )), (5, ("hook", "join"))]:
                self.assertNotEqual(told_of(call, cords, family, STRAIGHT, STRAIGHT), (TooGreat, (400,)))
            for cords, family in [(5, ("cut", "hook")), (5, ("cut", "swap")), (5, ("hook", "swap"))]:
                self.assertEqual(told_of(call, cords, family, STRAIGHT, STRAIGHT), (TooGreat, (400,)))
            four = (0, 1, 2, 3) * 2
            self.assertEqual(told_of(call, 4, brute.WORDS, four, four), (TooGreat, (400,)))
            self.assertEqual(told_of(call, 4, ("cut", "hook", "swap"), four, (0,) * 8), (BadFigure, ("family",)))

    def test_too_great_ahead_of_the_paper(self):
        for paper in (None, ("steps", None), ("steps", ())):
            told = told_of(check_turn_paper, 5, brute.WORDS, STRAIGHT, STRAIGHT, paper)
            self.assertEqual(told, (TooGreat, (5000,)))
        self.assertEqual(told_of(check_turn_paper, 5, ("swap",), STRAIGHT, (0,) * 10, None), (BadFigure, ("family",)))

    def test_figure_whole_ahead_of_other(self):
        for call in WITH_TWO:
            self.assertEqual(told_of(call, 2, ("cut",), (0, 0, 0, 0), None), (BadFigure, ("family",)))
            self.assertEqual(told_of(call, 2, ("cut",), (0, 1, 0, 1), (0, 1, 3, 1)), (BadFigure, (2,)))
            self.assertEqual(told_of(call, 2, (), (0, 1, 0, 1), (0, 1, 3, 1)), (BadFamily, (None,)))
            self.assertEqual(told_of(call, -1, (), None, None), (BadCords, (-1,)))
