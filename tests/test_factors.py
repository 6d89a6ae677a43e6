"""Division: [29], [30], [32], and the order of refusals there."""

import itertools
import unittest

from hookedcords.errors import BadCords, BadFamily, BadFigure, BadNumber, BadPaper, TooGreat
from hookedcords.factors import (
    base_of, check_on, crown_of, factor_down, factor_up, how_many_down, how_many_up, leads_down, leads_on, leads_up,
    on_paper, row_down, row_up, rows_on,
)
from tests import brute
from tests.brute import figures_of, over, told_of, upon

STRAIGHT = (0, 1, 2, 3, 4) * 2
CROSSED = (0, 1, 2, 3, 4, 1, 0, 2, 3, 4)
WITH_TWO = (leads_down, leads_up, leads_on, row_down, row_up, how_many_down, how_many_up, rows_on, on_paper)


def some_families():
    for cords in (1, 2):
        for family in brute.FAMILIES:
            yield cords, family
    for family in [("cut",), ("hook",), ("join",), ("swap",), ("hook", "join"), ("hook", "swap"), ("join", "swap"),
                   ("cut", "hook"), ("cut", "swap")]:
        yield 3, family


def short_rows(cords, family, most):
    """All rows of at most so many deeds, shorter ones first, each with its figure."""
    return [(row, brute.row_told(cords, row)[0]) for row in brute.rows_up_to(cords, family, most)]


def most_deeds(cords, family):
    """As many deeds as no shortest row of the family exceeds."""
    return max(brute.closure(cords, family).values())


class Leading(unittest.TestCase):
    def test_crown_and_base(self):
        for cords in range(1, 6):
            for figure in brute.all_figures(cords) if cords < 4 else brute.some_figures(cords, 200):
                crown, base = crown_of(cords, figure), base_of(cords, figure)
                self.assertEqual(crown, upon(cords, figure, over(cords, figure)))
                self.assertEqual(base, upon(cords, over(cords, figure), figure))
                for one in (crown, base):
                    self.assertEqual(over(cords, one), one)
                    self.assertEqual((crown_of(cords, one), base_of(cords, one)), (one, one))

    def test_leading_by_going_through_all_figures(self):
        for cords, family in some_families():
            figures = figures_of(cords, family)
            for figure in figures[::1 if cords < 3 else 5]:
                down = {upon(cords, figure, one) for one in figures}
                up = {upon(cords, one, figure) for one in figures}
                on = {upon(cords, one, two) for one, two in itertools.product(figures, down)}
                for other in figures:
                    self.assertIs(leads_down(cords, family, figure, other), other in down)
                    self.assertIs(leads_up(cords, family, figure, other), other in up)
                    self.assertIs(leads_on(cords, family, figure, other), other in on)
                    self.assertIn(crown_of(cords, figure), figures)
                    self.assertIn(base_of(cords, figure), figures)

    def test_leading_in_greater_families(self):
        for cords, family in [(3, brute.WORDS), (3, ("cut", "join")), (4, ("cut", "hook")), (5, ("swap",))]:
            figures = figures_of(cords, family)
            for figure, other in zip(figures[::7], figures[3::11]):
                self.assertIs(
                    leads_down(cords, family, figure, other),
                    any(upon(cords, figure, one) == other for one in figures))
                self.assertIs(
                    leads_up(cords, family, figure, other),
                    any(upon(cords, one, figure) == other for one in figures))

    def test_the_documents_example(self):
        self.assertIs(leads_down(2, ("hook",), (0, 0, 1, 1), (0, 1, 0, 1)), False)
        self.assertIs(leads_down(2, ("hook",), (0, 1, 0, 1), (0, 0, 1, 1)), True)

    def test_never_too_great(self):
        self.assertIs(leads_down(5, brute.WORDS, STRAIGHT, CROSSED), True)
        self.assertIs(leads_up(5, brute.WORDS, STRAIGHT, CROSSED), True)
        self.assertIs(leads_up(5, ("cut", "join"), (0,) * 10, STRAIGHT), False)


class Rows(unittest.TestCase):
    def test_rows_down_and_up(self):
        for cords, family in some_families():
            rows = short_rows(cords, family, most_deeds(cords, family))
            figures = figures_of(cords, family)
            for figure in figures[::1 if cords < 3 else 6]:
                down, up = {}, {}
                for row, one in rows:
                    down.setdefault(upon(cords, figure, one), row)
                    up.setdefault(upon(cords, one, figure), row)
                for other in figures:
                    self.assertEqual(row_down(cords, family, figure, other), down.get(other))
                    self.assertEqual(row_up(cords, family, figure, other), up.get(other))

    def test_rows_up_of_a_greater_family(self):
        # With more deeds the least row above isn't the one that a walk from below comes by first.
        rows = short_rows(3, ("cut", "hook", "swap"), 4)
        figures = figures_of(3, ("cut", "hook", "swap"))
        for figure in figures[::9]:
            up = {}
            for row, one in rows:
                up.setdefault(upon(3, one, figure), row)
            for other in figures:
                row = row_up(3, ("cut", "hook", "swap"), figure, other)
                self.assertEqual(row, up.get(other))

    def test_rows_on(self):
        families = [(2, family) for family in brute.FAMILIES if len(family) < 4] + [(3, ("hook",)), (3, ("cut",))]
        families += [(3, ("join",)), (3, ("swap",)), (1, ("cut",)), (1, ("hook", "swap"))]
        for cords, family in families:
            rows = short_rows(cords, family, most_deeds(cords, family))
            figures = figures_of(cords, family)
            least = {}
            for row, one in rows:
                least.setdefault(one, row)
            # Rows that aren't the least of their figures are of no use in a least pair.
            best = [(row, one) for one, row in least.items()]
            for figure in figures[::1 if len(figures) < 8 else 3]:
                found = {}
                for (above, one), (below, two) in itertools.product(best, repeat=2):
                    there = upon(cords, one, figure, two)
                    key = (len(above) + len(below), len(above), above, below)
                    found[there] = min(found.get(there, key), key)
                for other in figures:
                    told = found[other][2:] if other in found else None
                    self.assertEqual(rows_on(cords, family, figure, other), told)

    def test_rows_on_with_deeds_on_both_sides(self):
        for cords, family in [(3, ("cut", "hook", "swap")), (3, ("join", "swap")), (4, ("hook",))]:
            lengths = brute.closure(cords, family)
            figures = sorted(lengths)
            least = {}
            for row, one in short_rows(cords, family, max(lengths.values())):
                least.setdefault(one, row)
            for figure, other in zip(figures[::17], figures[4::13]):
                key = None
                for one, two in itertools.product(figures, repeat=2):
                    if key and lengths[one] + lengths[two] > key[0]:
                        continue
                    if upon(cords, one, figure, two) == other:
                        new = (lengths[one] + lengths[two], lengths[one], least[one], least[two])
                        key = new if key is None else min(key, new)
                self.assertEqual(rows_on(cords, family, figure, other), key[2:] if key else None)

    def test_counts_and_factors(self):
        for cords, family in some_families():
            figures = figures_of(cords, family)
            for figure, other in list(itertools.product(figures[::3], figures))[::2]:
                down = [one for one in figures if upon(cords, figure, one) == other]
                up = [one for one in figures if upon(cords, one, figure) == other]
                self.assertEqual(how_many_down(cords, family, figure, other), len(down))
                self.assertEqual(how_many_up(cords, family, figure, other), len(up))
                for call, found in ((factor_down, down), (factor_up, up)):
                    for number in {0, 1, len(found) - 1} & set(range(len(found))):
                        self.assertEqual(call(cords, family, figure, other, number), found[number])
                    told = told_of(call, cords, family, figure, other, len(found))
                    self.assertEqual(told, (BadNumber, (len(found),)))


class Papers(unittest.TestCase):
    def test_told_papers_hold(self):
        for cords, family in some_families():
            figures = figures_of(cords, family)
            for figure, other in list(itertools.product(figures, repeat=2))[::1 if cords < 3 else 23]:
                paper = on_paper(cords, family, figure, other)
                leads = leads_on(cords, family, figure, other)
                self.assertEqual(paper[0], "rows" if leads else "closed")
                self.assertIs(check_on(cords, family, figure, other, paper), leads)
                if leads:
                    above, below = [brute.row_told(cords, row)[0] for row in paper[1:]]
                    self.assertEqual(upon(cords, above, figure, below), other)
                else:
                    shapes = [brute.deed_figure(cords, deed) for deed in brute.deeds_of(cords, family)]
                    told = set(paper[1])
                    self.assertTrue(figure in told and other not in told and len(told) == len(paper[1]))
                    for one, shape in itertools.product(told, shapes):
                        self.assertLessEqual({upon(cords, one, shape), upon(cords, shape, one)}, told)

    def test_a_paper_of_a_greater_family(self):
        paper = on_paper(4, brute.WORDS, (0,) * 8, STRAIGHT[:4] * 2)
        self.assertEqual(paper[0], "closed")
        self.assertIs(check_on(4, brute.WORDS, (0,) * 8, STRAIGHT[:4] * 2, paper), False)
        paper = on_paper(4, brute.WORDS, STRAIGHT[:4] * 2, (0,) * 8)
        self.assertIs(check_on(4, brute.WORDS, STRAIGHT[:4] * 2, (0,) * 8, paper), True)

    def test_papers_without_the_form(self):
        wrong = [
            None, (), "rows", 5, True, ("rows",), ("rows", ()), ("rows", (), (), ()), ("closed",), ["rows", (), ()],
            ("closed", (), ()), ["closed", ()], ("Rows", (), ()), ((), ()), (None, (), ()), (("rows",), (), ()),
            ("steps", ()), ("", (), ()), (0, ()), ({}, ()), ([], (), ()),
        ]
        for paper in wrong:
            self.assertEqual(told_of(check_on, 2, ("hook",), (0, 1, 0, 1), (0, 0, 1, 1), paper), (BadPaper, ("form",)))

    def test_papers_of_rows(self):
        def check(family, above, below):
            return told_of(check_on, 2, family, (0, 1, 0, 1), (0, 0, 1, 1), ("rows", above, below))

        hook, swap = ("hook", 0), ("swap", 0)
        for above, below in [((hook,), ()), ((), (hook,)), ((hook,), (hook,)), ((swap, swap), (swap, hook, swap))]:
            self.assertIs(check(("hook", "swap"), above, below), True)
        bad = (BadPaper, ("rows",))
        for above, below in [
            ((), ()), ((swap,), ()), (None, (hook,)), ((hook,), None), ([hook], ()), ((hook,), []), (hook, ()),
            ((("hook", 1),), (hook,)), ((("hook", False),), ()), ((("cut", 0),), (hook,)), ((hook,), (("join", 0),)),
            (((hook,),), ()), ((None,), (hook,)), ((hook,), ("hook",)), (True, 1), ((["hook", 0],), ()),
        ]:
            self.assertEqual(check(("hook", "swap"), above, below), bad)
        self.assertEqual(check(("hook",), (hook, swap), ()), bad)
        self.assertIs(check(("hook",), (hook,) * 5000, (hook,) * 5000), True)
        self.assertEqual(check(("hook",), (hook,) * 5001, ()), bad)
        self.assertEqual(check(("hook",), (), (hook,) * 5001), bad)

    def test_papers_of_closed_figures(self):
        def check(figures, figure=(0, 0, 1, 1), other=(0, 1, 0, 1)):
            return told_of(check_on, 2, ("hook",), figure, other, ("closed", figures))

        for figures in [((0, 0, 1, 1),), ((0, 1, 2, 3), (0, 0, 1, 1), (0, 0, 1, 2), (0, 1, 2, 2)),
                        ((0, 0, 1, 1), (0, 0, 1, 2))]:
            # Figures that aren't of the family may stand there, too, in any order.
            self.assertIs(check(figures), False)
        bad = (BadPaper, ("closed",))
        for figures in [
            None, (), [(0, 0, 1, 1)], ((0, 1, 0, 1),), ((0, 0, 1, 1), (0, 1, 0, 1)), ((0, 0, 1, 1), (0, 0, 1, 1)),
            ((0, 0, 1, 1), None), ((0, 0, 1, 1), (0, 0, 1)), ((0, 0, True, 1),), ((0, 0, 1, 1), (0, 0, 2, 1)),
            ((0, 0, 1, 1), (0, 1, 2, 3)), ((0, 0, 1, 1), [0, 0, 1, 1]), (0, 0, 1, 1), ((0, 0, 1, 1), (False, 0, 1, 1)),
            "closed", 7, ((0, 0, 1, 1), ((0, 0, 1, 1),)),
        ]:
            self.assertEqual(check(figures), bad, figures)
        self.assertEqual(check(((0, 0, 1, 1),), (0, 0, 1, 1), (0, 0, 1, 1)), bad)
        # Closed below but not above, and the other way round.
        one, two = (0, 0, 1, 2, 2, 1), (0, 0, 1, 1, 2, 2)
        for figures in [(one, two), (over(3, one), over(3, two))]:
            self.assertEqual(told_of(check_on, 3, ("hook",), one, (0, 1, 2, 0, 1, 2), ("closed", figures)), bad)
        whole = (one, two, over(3, two), (0, 1, 1, 0, 2, 2))
        self.assertIs(check_on(3, ("hook",), one, (0, 1, 2, 0, 1, 2), ("closed", whole)), False)

    def test_papers_on_five_cords_are_judged(self):
        all_apart = tuple(range(10))
        rows = ("rows", (), tuple(("cut", place) for place in range(5)))
        self.assertIs(check_on(5, ("cut", "join"), STRAIGHT, all_apart, rows), True)
        self.assertEqual(told_of(check_on, 5, brute.WORDS, STRAIGHT, all_apart, ("rows", (), ())), (
            BadPaper, ("rows",)))


class Refusals(unittest.TestCase):
    def test_figure_whole_ahead_of_other(self):
        for call in WITH_TWO:
            self.assertEqual(told_of(call, 2, ("cut",), (0, 0, 0, 0), None), (BadFigure, ("family",)))
            self.assertEqual(told_of(call, 2, ("cut",), (0, 0, 3, 0), (0, 0, 0, 0)), (BadFigure, (2,)))
            self.assertEqual(told_of(call, 2, ("cut",), (0, 1, 0, 1), (0, 0, 0, 0)), (BadFigure, ("family",)))
            self.assertEqual(told_of(call, 2, ("cut",), (0, 1, 0, 1), (0, 1, 0, True)), (BadFigure, (3,)))
            self.assertEqual(told_of(call, 2, ("cut", 1), None, None), (BadFamily, (1,)))
            self.assertEqual(told_of(call, 0, (), None, None), (BadCords, (0,)))
            self.assertEqual(told_of(call, 5, ("cut", "join"), STRAIGHT, CROSSED), (BadFigure, ("family",)))

    def test_too_great_whatever_is_asked(self):
        for call in WITH_TWO:
            if call not in (leads_down, leads_up):
                for figure, other in [(STRAIGHT, STRAIGHT), ((0,) * 10, STRAIGHT)]:
                    self.assertEqual(told_of(call, 5, brute.WORDS, figure, other), (TooGreat, (5000,)))

    def test_numbers_of_factors(self):
        for call in (factor_down, factor_up):
            for wrong in (-1, True, False, None, "0", (0,)):
                self.assertEqual(told_of(call, 5, brute.WORDS, STRAIGHT, STRAIGHT, wrong), (BadNumber, (wrong,)))
                self.assertEqual(told_of(call, 2, ("cut",), (0, 1, 0, 1), (0, 1, 0, 1), wrong), (BadNumber, (wrong,)))
                self.assertEqual(told_of(call, 2, ("cut",), (0, 1, 0, 1), (0, 0, 0, 0), wrong), (
                    BadFigure, ("family",)))
            self.assertEqual(told_of(call, 5, brute.WORDS, STRAIGHT, STRAIGHT, 10 ** 999), (TooGreat, (5000,)))
            self.assertEqual(told_of(call, 2, ("cut",), (0, 1, 0, 1), (0, 1, 0, 1), 1), (BadNumber, (1,)))

    def test_check_on(self):
        self.assertEqual(told_of(check_on, 2, ("cut",), (0, 0, 0, 0), None, None), (BadFigure, ("family",)))
        self.assertEqual(told_of(check_on, 2, ("cut",), (0, 1, 0, 1), (0, 0, 0, 0), None), (BadFigure, ("family",)))
        self.assertEqual(told_of(check_on, 2, ("cut",), (0, 1, 0, 1), None, None), (BadFigure, (None,)))
        self.assertEqual(told_of(check_on, 5, brute.WORDS, STRAIGHT, STRAIGHT, None), (BadPaper, ("form",)))

    def test_crowns_of_wrong_figures(self):
        for call in (crown_of, base_of):
            self.assertEqual(told_of(call, 6, None), (BadCords, (6,)))
            self.assertEqual(told_of(call, 2, [0, 1, 0, 1]), (BadFigure, (None,)))
            self.assertEqual(told_of(call, 2, (0, 1, 0, None)), (BadFigure, (3,)))
