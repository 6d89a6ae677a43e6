"""Guides: [65], ways left by going through all rows of small families, and the facts about them."""

import itertools
import random
import unittest

from hookedcords.errors import BadFamily, BadFigure, BadRow, TooGreat
from hookedcords.guide import Guide
from hookedcords.live import Weave
from tests import brute
from tests.brute import told_of

ALL = ("cut", "hook", "join", "swap")
HOOK, SWAP, CUT, JOIN = ("hook", 0), ("swap", 0), ("cut", 0), ("join", 0)
FIVE = tuple(range(5)) * 2


def least_rows(cords, family, start):
    """A dict: for each figure that is come to from start the least of the rows with the fewest deeds."""
    shapes = [(deed, brute.deed_figure(cords, deed)) for deed in brute.deeds_of(cords, family)]
    rows = {start: ()}
    layer = {start: ()}
    while layer:
        further = {}
        for figure, row in layer.items():
            for deed, shape in shapes:
                below = brute.put(cords, figure, shape)[0]
                if below not in rows:
                    further[below] = min(further.get(below, row + (deed,)), row + (deed,))
        rows.update(further)
        layer = further
    return rows


def woven(cords, row):
    weave = Weave(cords)
    weave.work(row)
    return weave


class Ways(unittest.TestCase):
    def test_ways_by_going_through_all_rows(self):
        for cords, family in [(1, ("cut",)), (1, ("swap",)), (2, ("hook",)), (2, ALL), (2, ("join", "swap")), (3, ("swap",)),
                              (3, ("hook",)), (3, ("cut",)), (2, ("cut", "hook"))]:
            rows = list(brute.rows_up_to(cords, family, 4))
            for start in [()] + brute.some_rows(cords, 6, 4, seed=17):
                figure = brute.row_told(cords, start)[0]
                first = {}
                for row in rows:
                    first.setdefault(brute.upon(cords, figure, brute.row_told(cords, row)[0]), row)
                for goal in brute.all_figures(cords)[::1 if cords < 3 else 4]:
                    guide = Guide(woven(cords, start), family, goal)
                    told = guide.way_left()
                    if goal in first or told is None or len(told) <= 4:
                        self.assertEqual(told, first.get(goal))
                    self.assertEqual(guide.left(), None if told is None else len(told))
                    self.assertIs(guide.is_there(), goal == figure)

    def test_least_ways_of_greater_families(self):
        for cords in (3, 4):
            for family in [("hook", "swap"), ("cut", "swap"), ("join", "swap"), ("cut", "join"), ("cut", "hook")]:
                for start in [()] + brute.some_rows(cords, 2, 5, seed=23):
                    figure = brute.row_told(cords, start)[0]
                    rows = least_rows(cords, family, figure)
                    weave = woven(cords, start)
                    goals = sorted(rows)[:: max(1, len(rows) // 12)] + brute.some_figures(cords, 4)
                    for goal in goals:
                        self.assertEqual(Guide(weave, family, goal).way_left(), rows.get(goal))

    def test_going_to_the_end(self):
        for cords in (2, 3, 4):
            for family in (("cut", "swap"), ("hook", "join"), ("cut", "hook", "join", "swap")):
                for seed in range(4):
                    start, on = brute.some_rows(cords, 1, 3, seed=seed)[0], brute.some_rows(cords, 1, 9, seed, family)[0]
                    goal = brute.row_told(cords, start + on)[0]
                    weave = woven(cords, start)
                    guide = Guide(weave, family, goal)
                    while True:
                        row = guide.way_left()
                        told = guide.go()
                        if not row:
                            break
                        self.assertEqual(told, row[0])
                        self.assertEqual(guide.way_left(), row[1:])
                    self.assertIsNone(told)
                    self.assertTrue(guide.is_there())
                    self.assertEqual((guide.left(), guide.way_left()), (0, ()))
                    self.assertEqual(weave.figure(), goal)

    def test_goals_that_no_deed_brings(self):
        weave = woven(2, (HOOK,))
        guide = Guide(weave, ALL, (0, 1, 0, 1))
        for _ in range(2):
            self.assertIsNone(guide.way_left())
            self.assertIsNone(guide.left())
            self.assertIsNone(guide.go())
            self.assertIs(guide.is_there(), False)
        self.assertEqual(weave.row, (HOOK,))
        # None comes by deeds put below, but one by what is taken back.
        weave.work((CUT,))
        self.assertIsNone(guide.left())
        weave.undo(many=2)
        self.assertEqual(guide.way_left(), ())

    def test_no_way_comes_by_deeds_of_the_family_put_below(self):
        for cords in (2, 3):
            for family in brute.FAMILIES:
                for start in brute.some_rows(cords, 3, 4, seed=3):
                    figure = brute.row_told(cords, start)[0]
                    goal = brute.some_figures(cords, 1, seed=len(start))[0]
                    weave = woven(cords, start)
                    guide = Guide(weave, family, goal)
                    if guide.left() is None:
                        for deed in brute.deeds_of(cords, family):
                            with weave.trial():
                                weave.work((deed,))
                                self.assertIsNone(guide.left())
                    self.assertEqual(weave.figure(), figure)

    def test_a_swap_by_others_changes_the_way_by_at_most_one(self):
        for cords in (2, 3, 4):
            for family in [family for family in brute.FAMILIES if "swap" in family]:
                weave = woven(cords, brute.some_rows(cords, 1, 2, seed=9)[0])
                for goal in brute.some_figures(cords, 3, seed=4)[:3 if cords < 4 else 1]:
                    guide = Guide(weave, family, goal)
                    before = guide.left()
                    for place in range(cords - 1):
                        with weave.trial() as one:
                            one.work((("swap", place),))
                            after = guide.left()
                        self.assertEqual(before is None, after is None)
                        if before is not None:
                            self.assertLessEqual(abs(before - after), 1)

    def test_the_way_follows_the_weave_whatever_is_done_to_it(self):
        source = random.Random(6)
        for cords in (2, 3):
            for family in (("cut", "swap"), ("hook", "join", "swap"), ("join",)):
                weave = Weave(cords)
                goal = brute.row_told(cords, brute.some_rows(cords, 1, 5, 8, family)[0])[0]
                guide = Guide(weave, family, goal)
                for _ in range(12):
                    row = brute.some_rows(cords, 1, 3, seed=source.randrange(999))[0]
                    told_of(source.choice([weave.undo, weave.again, weave.turn_over, lambda: weave.work(row),
                                           lambda: weave.work_above(row), guide.go]))
                    rows = least_rows(cords, family, brute.row_told(cords, weave.row)[0])
                    self.assertEqual(guide.way_left(), rows.get(goal))


class Guides(unittest.TestCase):
    def test_fields(self):
        weave = Weave(2)
        goal = (0, 0, 1, 1)
        guide = Guide(weave, ("hook",), goal)
        self.assertIs(guide.weave, weave)
        self.assertEqual((guide.family, guide.goal), (("hook",), goal))
        self.assertEqual(guide.go(), HOOK)
        self.assertEqual(weave.row, (HOOK,))
        weave.undo()
        self.assertEqual(guide.left(), 1)
        self.assertTrue(guide == guide and guide != Guide(weave, ("hook",), goal))

    def test_figures_of_no_family(self):
        # The weave and the goal have upper pieces of three points, which no figure of the family has.
        weave = woven(3, (JOIN, ("join", 1), CUT, ("cut", 1), ("cut", 2)))
        self.assertEqual(weave.figure(), (0, 0, 0, 1, 2, 3))
        guide = Guide(weave, ("hook",), (0, 0, 0, 1, 1, 2))
        self.assertEqual(guide.way_left(), (("hook", 0),))
        self.assertEqual(Guide(weave, ("hook",), (0, 0, 0, 1, 2, 2)).go(), ("hook", 1))

    def test_ways_at_the_most_deeds(self):
        weave = woven(2, (HOOK,) * 40)
        guide = Guide(weave, ("cut",), (0, 0, 1, 2))
        self.assertEqual(guide.way_left(), (CUT,))
        self.assertEqual(told_of(guide.go), (TooGreat, (40,)))
        self.assertEqual(weave.row, (HOOK,) * 40)
        weave.undo()
        self.assertEqual(told_of(weave.undo)[0].__name__, "NothingBack")
        weave.work((HOOK,) * 39)
        self.assertEqual(guide.go(), CUT)
        self.assertEqual(len(weave), 40)
        self.assertIsNone(guide.go())

    def test_too_great_by_the_weaves_cords(self):
        for cords in (1, 2, 3, 4, 5):
            for family in brute.FAMILIES:
                is_great = cords == 5 and family in [
                    ("cut", "join"), ("cut", "hook", "join"), ("cut", "hook", "swap"), ("hook", "join", "swap"),
                    ("cut", "join", "swap"), ALL,
                ]
                told = told_of(Guide, Weave(cords), family, tuple(range(cords)) * 2)
                self.assertIs(told == (TooGreat, (5000,)), is_great)

    def test_five_cords(self):
        weave = woven(5, (("swap", 0), ("swap", 1), ("swap", 0), ("join", 3)))
        guide = Guide(weave, ("cut", "swap"), (0, 1, 2, 3, 3) + (2, 1, 0, 3, 4))
        self.assertEqual(guide.way_left(), (("cut", 4),))
        self.assertIsNone(Guide(weave, ("cut", "swap"), FIVE).left())
        self.assertEqual(Guide(weave, ("swap",), (0, 1, 2, 3, 3, 0, 1, 2, 3, 3)).left(), 3)

    def test_refusals(self):
        weave = Weave(2)
        self.assertEqual(told_of(Guide, weave, ("hook", "cut"), None), (BadFamily, (1,)))
        self.assertEqual(told_of(Guide, weave, ("cut",), (0, 0)), (BadFigure, (None,)))
        self.assertEqual(told_of(Guide, weave, ("cut",), (0, 0, 2, 0)), (BadFigure, (2,)))
        self.assertEqual(told_of(Guide, Weave(5), ALL, (0, 1, 0, 1)), (BadFigure, (None,)))
        self.assertEqual(told_of(weave.work, (("hook", 1),)), (BadRow, (0,)))

    def test_operators_that_are_not_described(self):
        guide = Guide(Weave(2), ("hook",), (0, 0, 1, 1))
        for call in (lambda: guide + guide, lambda: guide < guide, lambda: len(guide), lambda: guide * 2):
            with self.assertRaises(TypeError):
                call()
        self.assertEqual(list(itertools.chain([guide.left()])), [1])
