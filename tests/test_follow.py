"""Papers on what follows, and partings that go well: [47], [48], [50], by going through all partings of small families."""

import itertools
import unittest

from hookedcords.books import lots_of
from hookedcords.errors import BadBook, BadCords, BadFamily, BadFigure, BadNumber, BadPaper, TooGreat
from hookedcords.follow import (
    all_partings, check_follow, common_lots, does_go_well, follow_paper, joined_lots, pair_partings, rank_lots,
)
from tests import brute
from tests.brute import figures_of, told_of, upon
from tests.test_books import SMALL, lots_by_hand, some_books

STRAIGHT = (0, 1, 2, 3, 4) * 2
CROSSED = (0, 1, 2, 3, 4, 1, 0, 2, 3, 4)
TINY = list(brute.small_families(8))


def goes_well(cords, family, lots):
    """By all two figures of one lot and all figures of the family, not deeds alone."""
    figures = figures_of(cords, family)
    number = dict(zip(figures, lots))
    for one, two in itertools.combinations(figures, 2):
        if number[one] == number[two]:
            for far in figures:
                if number[upon(cords, far, one)] != number[upon(cords, far, two)]:
                    return False
                if number[upon(cords, one, far)] != number[upon(cords, two, far)]:
                    return False
    return True


def all_well(cords, family):
    return [lots for lots in brute.growth_strings(len(figures_of(cords, family))) if goes_well(cords, family, lots)]


def is_within(lots, far_lots):
    return all(far_lots[one] == far_lots[two] for one, two in itertools.combinations(range(len(lots)), 2)
               if lots[one] == lots[two])


class Papers(unittest.TestCase):
    def check_told(self, cords, family, book, figure, other):
        lots = dict(zip(figures_of(cords, family), lots_of(cords, family, book)))
        paper = follow_paper(cords, family, book, figure, other)
        follows = lots[figure] == lots[other]
        self.assertEqual(paper[0], "steps" if follows else "lots")
        self.assertIs(check_follow(cords, family, book, figure, other, paper), follows)
        if not follows:
            self.assertEqual(paper[1], tuple(lots.values()))
            return
        here = figure
        for above, number, is_back, below in paper[1]:
            self.assertTrue({above, below} <= set(figures_of(cords, family)))
            ends = [upon(cords, above, one, below) for one in book[number]]
            self.assertEqual(here, ends[is_back])
            here = ends[not is_back]
        self.assertEqual(here, other)

    def test_told_papers_hold(self):
        for cords, family in SMALL:
            pairs = list(itertools.product(figures_of(cords, family), repeat=2))
            for book in some_books(cords, family, 3, seed=11):
                for figure, other in pairs[::1 if len(pairs) < 30 else 29]:
                    self.check_told(cords, family, book, figure, other)

    def test_told_papers_of_greater_families(self):
        for cords, family in [(4, ("hook", "swap")), (5, ("cut", "hook")), (3, brute.WORDS)]:
            figures = figures_of(cords, family)
            for book in (((figures[5], figures[-9]),), ((figures[-1], figures[-2]), (figures[0], figures[1])), ()):
                for figure, other in list(zip(figures[::61], figures[4::57]))[:4]:
                    self.check_told(cords, family, book, figure, other)

    def test_steps(self):
        straight, crossed, hooked = (0, 1, 0, 1), (0, 1, 1, 0), (0, 0, 1, 1)
        book = ((hooked, straight), (straight, crossed))

        def check(figure, other, steps):
            return told_of(check_follow, 2, ("hook", "swap"), book, figure, other, ("steps", steps))

        step = (straight, 0, False, crossed)
        back = (straight, 0, True, crossed)
        self.assertIs(check(hooked, crossed, (step,)), True)
        self.assertIs(check(crossed, hooked, (back,)), True)
        self.assertIs(check(hooked, hooked, ()), True)
        self.assertIs(check(hooked, hooked, (step, back) * 100), True)
        self.assertIs(check(hooked, hooked, ((hooked, 1, False, hooked),)), True)
        self.assertIs(check(straight, crossed, ((straight, 1, False, straight),)), True)
        for steps in [(), (back,), (step, step), (step, back), ((hooked, 0, False, crossed),), ((straight, 1, False, straight),)]:
            self.assertEqual(check(hooked, crossed, steps), (BadPaper, ("steps",)))
        for steps in [
            None, [step], step, (None,), (step[:3],), (step + (0,),), ((straight, 0, 0, crossed),), (list(step),),
            ((straight, 2, False, crossed),), ((straight, -1, False, crossed),), ((straight, False, False, crossed),),
            ((straight, 0, None, crossed),), ((None, 0, False, crossed),), ((straight, 0, False, (0, 0, 0, 0)),),
            (((0, 1, 2, 1), 0, False, crossed),), ((straight, 0, False, list(crossed)),), "steps", 5, True,
            ((straight, 0, False, (0, 1, 3, 0)),), (back, None), ((straight, "0", False, crossed),),
        ]:
            self.assertEqual(check(hooked, crossed, steps), (BadPaper, ("form",)), steps)
        # By a book of no pairs there is no number of a pair.
        told = told_of(check_follow, 2, ("hook",), (), hooked, hooked, ("steps", ((straight, 0, False, straight),)))
        self.assertEqual(told, (BadPaper, ("form",)))

    def test_lots(self):
        family = ("hook", "swap")
        hooked, straight, crossed = figures_of(2, family)
        self.assertEqual((hooked, straight, crossed), ((0, 0, 1, 1), (0, 1, 0, 1), (0, 1, 1, 0)))

        def check(book, figure, other, lots):
            return told_of(check_follow, 2, family, book, figure, other, ("lots", lots))

        self.assertIs(check((), hooked, straight, (0, 1, 2)), False)
        self.assertIs(check(((straight, crossed),), hooked, straight, (0, 1, 1)), False)
        self.assertIs(check((), hooked, straight, (0, 1, 1)), False)
        # A hook as straight is no parting that goes well: then it is as the swap, too.
        for other in (straight, crossed, hooked):
            self.assertEqual(check(((straight, crossed),), hooked, other, (0, 0, 1)), (BadPaper, ("well",)))
        self.assertEqual(check(((straight, crossed),), hooked, hooked, (0, 1, 2)), (BadPaper, ("pairs",)))
        self.assertEqual(check(((hooked, hooked), (straight, crossed)), hooked, straight, (0, 1, 2)), (
            BadPaper, ("pairs",)))
        self.assertEqual(check((), straight, crossed, (0, 1, 1)), (BadPaper, ("apart",)))
        self.assertEqual(check((), hooked, hooked, (0, 1, 2)), (BadPaper, ("apart",)))
        for lots in [None, (), (0, 1), (0, 1, 2, 3), [0, 1, 2], (1, 0, 2), (0, 2, 1), (0, True, 2), (0, -1, 1), 3,
                     "012", ("0", "1", "2"), (False, 1, 2), (0, 1, None)]:
            self.assertEqual(check(((straight, crossed),), hooked, straight, lots), (BadPaper, ("form",)), lots)

    def test_forms(self):
        for paper in [None, (), "steps", ("steps",), ("steps", (), ()), ["steps", ()], ("lots",), ("Lots", (0,)),
                      ("closed", ()), (("steps",), ()), (None, ()), 7, True, ("", ()), ("lots", (0, 0), 1)]:
            told = told_of(check_follow, 1, ("cut",), (), (0, 0), (0, 0), paper)
            self.assertEqual(told, (BadPaper, ("form",)))

    def test_papers_are_checked_by_all_partings(self):
        for cords, family in brute.small_families(7):
            figures = figures_of(cords, family)
            partings = brute.growth_strings(len(figures))
            for book in some_books(cords, family, 2, seed=3):
                least = lots_by_hand(cords, family, book)
                for figure, other in list(itertools.product(figures, repeat=2))[::3]:
                    for lots in partings[::1 if len(partings) < 60 else 11]:
                        number = dict(zip(figures, lots))
                        expected = False
                        if number[figure] == number[other]:
                            expected = (BadPaper, ("apart",))
                        if not is_within(least, lots):
                            expected = (BadPaper, ("pairs",))
                        if not goes_well(cords, family, lots):
                            expected = (BadPaper, ("well",))
                        told = told_of(check_follow, cords, family, book, figure, other, ("lots", lots))
                        self.assertEqual(told, expected)


class Partings(unittest.TestCase):
    def test_all_partings_that_go_well(self):
        for cords, family in TINY:
            self.assertEqual(all_partings(cords, family), tuple(all_well(cords, family)))

    def test_all_partings_put_together_partings_by_pairs(self):
        for cords, family in brute.small_families(31, 9):
            told = all_partings(cords, family)
            self.assertEqual(told, tuple(sorted(set(told))))
            by_pairs = pair_partings(cords, family)
            self.assertLessEqual(set(by_pairs), set(told))
            alone = tuple(range(len(figures_of(cords, family))))
            for lots in told[::1 if len(told) < 40 else 9]:
                self.assertTrue(goes_well(cords, family, lots))
                joined = alone
                for one in by_pairs:
                    if is_within(one, lots):
                        joined = joined_lots(cords, family, joined, one)
                self.assertEqual(joined, lots)
            for one, two in list(itertools.combinations(told, 2))[::max(1, len(told) ** 2 // 60)]:
                self.assertIn(joined_lots(cords, family, one, two), told)
                self.assertIn(common_lots(cords, family, one, two), told)

    def test_partings_by_pairs(self):
        for cords, family in brute.small_families(16):
            pairs = list(itertools.combinations(figures_of(cords, family), 2))
            told = {lots_by_hand(cords, family, (pair,)) for pair in pairs}
            self.assertEqual(pair_partings(cords, family), tuple(sorted(told)))

    def test_going_well_by_all_figures(self):
        for cords, family in TINY:
            partings = brute.growth_strings(len(figures_of(cords, family)))
            for lots in partings[::1 if len(partings) < 900 else 7]:
                self.assertIs(does_go_well(cords, family, lots), goes_well(cords, family, lots))

    def test_joined_and_common(self):
        for cords, family in brute.small_families(7):
            well = all_well(cords, family)
            partings = brute.growth_strings(len(figures_of(cords, family)))
            step = 1 if len(partings) < 20 else 73
            for lots, far_lots in itertools.product(partings[::step], partings[2::step]):
                least = [one for one in well if is_within(lots, one) and is_within(far_lots, one)]
                least = [one for one in least if all(is_within(one, far) for far in least)]
                self.assertEqual([joined_lots(cords, family, lots, far_lots)], least)
                common = brute.by_labels(list(zip(lots, far_lots)))
                self.assertEqual(common_lots(cords, family, lots, far_lots), common)
                self.assertTrue(is_within(common, lots) and is_within(common, far_lots))

    def test_rank_lots(self):
        for cords, family in list(brute.small_families(203)) + [(4, ("swap",)), (4, ("cut", "hook"))]:
            figures = figures_of(cords, family)
            for number in range(cords + 2):
                labels = ["low" if len(brute.through(cords, one)) < number else one for one in figures]
                lots = rank_lots(cords, family, number)
                self.assertEqual(lots, brute.by_labels(labels))
                if len(figures) < 32:
                    self.assertTrue(goes_well(cords, family, lots))
                self.assertIs(does_go_well(cords, family, lots), True)
            self.assertEqual(rank_lots(cords, family, 0), tuple(range(len(figures))))
            self.assertEqual(rank_lots(cords, family, cords + 1), (0,) * len(figures))

    def test_swaps_part_into_equal_lots(self):
        for cords in (2, 3, 4):
            for lots in all_partings(cords, ("swap",)):
                self.assertEqual(len({lots.count(lot) for lot in lots}), 1)
        self.assertEqual([max(lots) + 1 for lots in all_partings(4, ("swap",))], [1, 2, 6, 24])


class Refusals(unittest.TestCase):
    def test_lots_with_the_very_thing(self):
        for lots in [None, (), (0,), (0, 1, 2), [0, 1], (1, 0), (0, True), (0, 2), (0, -1), "01", ("0", "1"), {}, 4]:
            for call, values in [
                (does_go_well, (lots,)), (joined_lots, (lots, None)), (joined_lots, ((0, 0), lots)),
                (common_lots, (lots, None)), (common_lots, ((0, 1), lots)),
            ]:
                told = told_of(call, 2, ("swap",), *values)
                self.assertEqual(told, (BadNumber, (lots,)))
                self.assertIs(told[1][0], lots)
        many = 1430
        for call in (does_go_well, joined_lots, common_lots):
            values = ((0,) * (many - 1),) * (1 if call is does_go_well else 2)
            self.assertEqual(told_of(call, 4, ("cut", "join"), *values), (BadNumber, (values[0],)))

    def test_too_great(self):
        for cords, family, many in [(4, ("cut", "join"), 1430), (5, ("cut", "swap"), 1546), (5, brute.WORDS, 115975)]:
            straight = tuple(range(cords)) * 2
            lots = (0,) * many
            self.assertEqual(told_of(does_go_well, cords, family, lots), (TooGreat, (1000,)))
            self.assertEqual(told_of(joined_lots, cords, family, lots, lots), (TooGreat, (1000,)))
            self.assertEqual(common_lots(cords, family, lots, lots), lots)
            self.assertEqual(common_lots(cords, family, lots, tuple(range(many))), tuple(range(many)))
            self.assertEqual(told_of(follow_paper, cords, family, (), straight, straight), (TooGreat, (1000,)))
            for paper in (None, ("steps", ()), ("lots", None)):
                told = told_of(check_follow, cords, family, (), straight, straight, paper)
                self.assertEqual(told, (TooGreat, (1000,)))
            self.assertEqual(told_of(follow_paper, cords, family, (None,), straight, straight), (BadBook, (0,)))
        self.assertEqual(told_of(follow_paper, 5, ("cut", "join"), (), STRAIGHT, CROSSED), (BadFigure, ("family",)))
        self.assertEqual(told_of(check_follow, 5, ("cut", "join"), (), CROSSED, None, None), (BadFigure, ("family",)))

    def test_rank_lots(self):
        for wrong in (-1, 4, True, None, "1", (0,), 10 ** 999):
            self.assertEqual(told_of(rank_lots, 2, ("swap",), wrong), (BadNumber, (wrong,)))
        self.assertEqual(told_of(rank_lots, 5, ("cut", "join"), 7), (BadNumber, (7,)))
        self.assertEqual(told_of(rank_lots, 5, ("cut", "join"), 6), (TooGreat, (5000,)))
        # Not 1,000 figures there, but 5,000.
        self.assertEqual(set(rank_lots(5, ("cut", "swap"), 6)), {0})
        self.assertEqual(len(rank_lots(4, brute.WORDS, 2)), 4140)

    def test_partings(self):
        for call in (pair_partings, all_partings):
            for cords, family in [(5, ("hook",)), (3, ("cut", "swap")), (4, ("cut", "hook")), (5, brute.WORDS)]:
                self.assertEqual(told_of(call, cords, family), (TooGreat, (32,)))
            self.assertEqual(told_of(call, 3, ("swap", "cut")), (BadFamily, (1,)))
            self.assertEqual(told_of(call, 0, ("swap", "cut")), (BadCords, (0,)))
        for cords, family in [(4, ("cut",)), (5, ("cut",)), (5, ("join",))]:
            self.assertEqual(told_of(all_partings, cords, family), (TooGreat, (500,)))
            self.assertGreater(len(pair_partings(cords, family)), 100)
        self.assertEqual(len(all_partings(3, ("cut",))), 61)
        self.assertEqual((pair_partings(1, ("hook",)), all_partings(1, ("hook",))), ((), ((0,),)))
