"""Sums of figures: [53], [54], by going through all pairs of colourings, and the order of refusals there."""

import fractions
import itertools
import random
import unittest

from hookedcords.counts import (
    added, fewest_colours, first_shown, hold, is_nothing, letting, need_sum, power_sum, row_sum, shown, upon_sum,
)
from hookedcords.errors import BadColours, BadCords, BadFamily, BadNumber, BadRow, BadSum, TooGreat
from tests import brute
from tests.brute import told_of
from tests.test_colourings import MOST, colourings, is_let, pairs

CASES = [(1, 1), (1, 2), (1, 3), (1, 5), (2, 1), (2, 2), (2, 3), (2, 5)]
ALL = ("cut", "hook", "join", "swap")
LESS = (((0, 1, 0, 1), 1), ((0, 1, 1, 0), -1))


def sum_by(weights):
    return tuple(sorted((figure, weight) for figure, weight in weights.items() if weight))


def shown_by_hand(terms, pair):
    return sum(weight for figure, weight in terms if is_let(figure, pair[0] + pair[1]))


def drawn_sums(cords, many, most=6, seed=1):
    """Drawn sums; some of them are less a sum that shows much the same, so that they are nothing by few colours."""
    source = random.Random(100 * seed + cords)
    found = [()]
    for _ in range(many):
        weights = {}
        for figure in brute.some_figures(cords, source.randint(1, most), source.random()):
            weights[figure] = source.choice((-3, -2, -1, 1, 2, 7))
        if source.random() < 0.4:
            # Lessened at its weights' sum by the figure in which all hangs together it shows 0 by one colour.
            one = (0,) * (2 * cords)
            weights[one] = weights.get(one, 0) - sum(weights.values())
        found.append(sum_by(weights))
    return found


def just_so(cords, many, figure):
    """The sum that shows 1 at the pairs that the figure lets just so, by so many colours, and 0 at all others."""
    found = {}
    weights = {}
    for one in sorted(brute.all_figures(cords), key=max, reverse=True):
        if is_let(figure, one):
            found[one] = 1 if one == figure else 0
            for other, weight in weights.items():
                if is_let(other, one):
                    found[one] -= weight
            weights[one] = found[one]
    return sum_by(weights)


class Sums(unittest.TestCase):
    def test_what_is_shown(self):
        for cords, many in CASES:
            for terms in drawn_sums(cords, 12):
                for pair in pairs(cords, many):
                    self.assertEqual(shown(cords, terms, many, *pair), shown_by_hand(terms, pair))
        self.assertEqual(shown(2, LESS, MOST, (5, 6), (5, 6)), 1)
        self.assertEqual(shown(2, LESS, MOST, (5, 6), (6, 5)), -1)
        self.assertEqual(shown(2, LESS, MOST, (MOST - 1,) * 2, (MOST - 1,) * 2), 0)
        self.assertEqual(shown(2, (), 2, (0, 0), (0, 0)), 0)

    def test_added(self):
        for cords in (1, 2, 3, 5):
            sums = drawn_sums(cords, 15)
            for terms, other in itertools.product(sums, repeat=2):
                weights = dict(terms)
                for figure, weight in other:
                    weights[figure] = weights.get(figure, 0) + weight
                self.assertEqual(added(cords, terms, other), sum_by(weights))
        minus = tuple((figure, -weight) for figure, weight in LESS)
        self.assertEqual(added(2, LESS, minus), ())

    def test_one_sum_upon_another_by_all_colourings_between(self):
        for cords, many in [(1, 1), (1, 2), (1, 4), (2, 1), (2, 2), (2, 3)]:
            sums = drawn_sums(cords, 7)
            for terms, other in itertools.product(sums, repeat=2):
                both = upon_sum(cords, terms, other, many)
                for top, bottom in pairs(cords, many):
                    between = sum(
                        shown_by_hand(terms, (top, middle)) * shown_by_hand(other, (middle, bottom))
                        for middle in colourings(cords, many)
                    )
                    self.assertEqual(shown_by_hand(both, (top, bottom)), between)

    def test_one_sum_upon_another_by_its_figures(self):
        for cords in (1, 2, 3, 4, 5):
            for many in (1, 2, 9, 10, MOST):
                sums = drawn_sums(cords, 4, seed=5)
                for terms, other, third in itertools.product(sums, repeat=3):
                    weights = {}
                    for (one, weight), (two, far_weight) in itertools.product(terms, other):
                        figure, left = brute.put(cords, one, two)
                        weights[figure] = weights.get(figure, 0) + weight * far_weight * many ** left
                    both = upon_sum(cords, terms, other, many)
                    self.assertEqual(both, sum_by(weights))
                    if cords < 4:
                        far = upon_sum(cords, other, third, many)
                        self.assertEqual(upon_sum(cords, both, third, many), upon_sum(cords, terms, far, many))

    def test_powers(self):
        for cords in (1, 2, 3):
            for terms in drawn_sums(cords, 6, most=3):
                for many in (1, 2, 10, MOST):
                    self.assertEqual(power_sum(cords, terms, 0, many), ((tuple(range(cords)) * 2, 1),))
                    power = terms
                    for number in range(1, 7):
                        self.assertEqual(power_sum(cords, terms, number, many), power)
                        power = upon_sum(cords, terms, power, many)
        self.assertEqual(power_sum(2, (((0, 0, 1, 1), -3),), 64, MOST), (((0, 0, 1, 1), 3 ** 64 * MOST ** 63),))
        self.assertEqual(power_sum(2, LESS, 64, 7), (((0, 1, 0, 1), 2 ** 63), ((0, 1, 1, 0), -2 ** 63)))
        self.assertEqual(power_sum(1, (), 1, 2), ())
        self.assertEqual(power_sum(1, (), 0, 2), (((0, 0), 1),))

    def test_sums_that_come_to_nothing(self):
        # The hook of seven colours, less seven times straight, twice: hook upon hook is seven hooks.
        terms = (((0, 0, 1, 1), 1), ((0, 1, 0, 1), -7))
        self.assertEqual(upon_sum(2, terms, (((0, 0, 1, 1), 1),), 7), ())
        self.assertEqual(upon_sum(2, terms, terms, 7), (((0, 0, 1, 1), -7), ((0, 1, 0, 1), 49)))

    def test_sums_of_rows(self):
        for cords in (1, 2, 3, 5):
            for row in brute.some_rows(cords, 20, 12):
                figure, left = brute.row_told(cords, row)
                for many in (1, 2, MOST):
                    self.assertEqual(row_sum(cords, row, many), ((figure, many ** left),))
        self.assertEqual(row_sum(1, (("cut", 0),) * 40, MOST), (((0, 1), MOST ** 39),))

    def test_the_documents_example(self):
        self.assertEqual(fewest_colours(2, LESS), 2)
        self.assertEqual(upon_sum(2, LESS, LESS, 3), (((0, 1, 0, 1), 2), ((0, 1, 1, 0), -2)))

    def test_sums_of_200_pairs_and_of_201(self):
        figures = brute.all_figures(3)
        self.assertEqual(len(figures), 203)
        full = tuple((figure, 1) for figure in figures[:200])
        self.assertIs(need_sum(3, full), full)
        self.assertEqual(added(3, full, full), tuple((figure, 2) for figure in figures[:200]))
        self.assertEqual(len(added(3, full[:199], ((figures[202], 5),))), 200)
        self.assertEqual(told_of(added, 3, full, ((figures[202], 5),)), (TooGreat, (200,)))
        self.assertEqual(told_of(added, 3, full[:100], tuple((figure, 1) for figure in figures[100:202])), (TooGreat, (200,)))
        self.assertEqual(told_of(need_sum, 3, tuple((figure, 1) for figure in figures[:201])), (BadSum, (None,)))
        self.assertEqual(told_of(need_sum, 3, full[:199] + ((figures[198], 1),)), (BadSum, (199,)))

    def test_too_many_pairs_upon_one_another(self):
        figures = brute.all_figures(3)
        straight = (0, 1, 2, 0, 1, 2)
        plain = tuple((figure, 1) for figure in figures[:200])
        self.assertEqual(upon_sum(3, plain, ((straight, 4),), 3), tuple((figure, 4) for figure in figures[:200]))
        deeds = tuple(sorted((brute.deed_figure(5, deed), 1) for deed in brute.deeds_of(5)))
        power = deeds
        sizes = [len(power)]
        while sizes[-1] <= 200:
            weights = {}
            for (one, weight), (two, far_weight) in itertools.product(power, deeds):
                figure, left = brute.put(5, one, two)
                weights[figure] = weights.get(figure, 0) + weight * far_weight * 2 ** left
            power = sum_by(weights)
            sizes.append(len(power))
        many = len(sizes)
        self.assertEqual(len(power_sum(5, deeds, many - 1, 2)), sizes[-2])
        self.assertEqual(told_of(power_sum, 5, deeds, many, 2), (TooGreat, (200,)))
        self.assertEqual(told_of(power_sum, 5, deeds, 64, 2), (TooGreat, (200,)))
        near = power_sum(5, deeds, many - 1, 2)
        self.assertEqual(told_of(upon_sum, 5, near, deeds, 2), (TooGreat, (200,)))
        self.assertEqual(told_of(upon_sum, 5, near, deeds, 0), (BadNumber, (0,)))
        self.assertEqual(told_of(power_sum, 5, deeds, many, None), (BadNumber, (None,)))

    def test_a_power_that_is_short_again_is_too_great_all_the_same(self):
        # Nothing is through, and what stands above and what stands below weigh one another up in the third power.
        halves = brute.growth_strings(4)
        far = (0, 1, 2, 3)
        terms = {}
        for number, half in enumerate(halves):
            terms[brute.by_labels(half + tuple(9 - one for one in far))] = number + 1
            terms[brute.by_labels(far + tuple(9 - one for one in half))] = -number - 1
        terms = sum_by({figure: weight for figure, weight in terms.items() if figure != tuple(range(8))})
        power = terms
        sizes = []
        for _ in range(2):
            weights = {}
            for (one, weight), (two, far_weight) in itertools.product(power, terms):
                figure, left = brute.put(4, one, two)
                weights[figure] = weights.get(figure, 0) + weight * far_weight * 2 ** left
            power = sum_by(weights)
            sizes.append(len(power))
        self.assertGreater(sizes[0], 200)
        self.assertLess(sizes[1], 40)
        for number in (2, 3, 64):
            self.assertEqual(told_of(power_sum, 4, terms, number, 2), (TooGreat, (200,)))


class Nothing(unittest.TestCase):
    def test_by_going_through_all_pairs(self):
        for cords, most in [(1, 5), (2, 5)]:
            sums = drawn_sums(cords, 25) + [just_so(cords, most, figure) for figure in brute.all_figures(cords)]
            for terms in sums:
                least = None
                for many in range(1, most + 1):
                    apart = [pair for pair in pairs(cords, many) if shown_by_hand(terms, pair)]
                    self.assertIs(is_nothing(cords, terms, many), not apart)
                    self.assertEqual(first_shown(cords, terms, many), apart[0] if apart else None)
                    if apart and least is None:
                        least = many
                self.assertEqual(fewest_colours(cords, terms), least)

    def test_the_least_pair_is_a_figure(self):
        for cords in (1, 2, 3):
            for figure in brute.all_figures(cords)[::1 if cords < 3 else 20]:
                terms = just_so(cords, 2 * cords, figure)
                self.assertEqual(fewest_colours(cords, terms), max(figure) + 1)
                self.assertEqual(first_shown(cords, terms, MOST), (figure[:cords], figure[cords:]))
                self.assertIs(is_nothing(cords, terms, max(figure) + 1), False)
                if max(figure):
                    self.assertIs(is_nothing(cords, terms, max(figure)), True)
                    self.assertIsNone(first_shown(cords, terms, max(figure)))

    def test_sums_of_no_pairs(self):
        for cords in (1, 2, 3, 4, 5):
            for many in (1, 2, 9, 10, MOST):
                self.assertIs(is_nothing(cords, (), many), True)
                self.assertIsNone(first_shown(cords, (), many))
            self.assertIsNone(fewest_colours(cords, ()))

    def test_many_colours_tell_all_apart(self):
        for cords in (1, 2, 3, 4):
            for terms in drawn_sums(cords, 6)[1:]:
                for many in (2 * cords, 2 * cords + 1, MOST):
                    self.assertIs(is_nothing(cords, terms, many), terms == ())

    def test_four_cords(self):
        figures = [(0, 1, 2, 3, 0, 1, 2, 3), (0, 1, 2, 3, 1, 0, 2, 3), (0, 1, 2, 3, 3, 2, 1, 0)]
        terms = tuple(zip(figures, (1, 1, -2)))
        self.assertIs(is_nothing(4, terms, 1), True)
        self.assertEqual(fewest_colours(4, terms), 2)
        self.assertEqual(first_shown(4, terms, 2), ((0, 0, 0, 1), (0, 0, 0, 1)))

    def test_five_cords(self):
        terms = (((0, 1, 2, 3, 4, 0, 1, 2, 3, 4), 1),)
        for many in (1, 2, 8, 9):
            self.assertEqual(told_of(is_nothing, 5, terms, many), (TooGreat, (5000,)))
        for many in (10, 11, MOST):
            self.assertIs(is_nothing(5, terms, many), False)
        for many in (1, 9, 10, MOST):
            self.assertEqual(told_of(first_shown, 5, terms, many), (TooGreat, (5000,)))
        self.assertEqual(told_of(fewest_colours, 5, terms), (TooGreat, (5000,)))
        self.assertEqual(told_of(is_nothing, 5, terms, MOST + 1), (BadNumber, (MOST + 1,)))
        self.assertEqual(told_of(first_shown, 5, terms, 0), (BadNumber, (0,)))
        self.assertEqual(told_of(fewest_colours, 5, terms * 2), (BadSum, (1,)))


def rank_by_fractions(rows):
    """How many rows of numbers hold out together, by fractions."""
    rows = [[fractions.Fraction(one) for one in row] for row in rows]
    rank = 0
    for place in range(len(rows[0]) if rows else 0):
        lead = next((at for at in range(rank, len(rows)) if rows[at][place]), None)
        if lead is None:
            continue
        rows[rank], rows[lead] = rows[lead], rows[rank]
        for at in range(len(rows)):
            if at != rank and rows[at][place]:
                times = rows[at][place] / rows[rank][place]
                rows[at] = [one - times * two for one, two in zip(rows[at], rows[rank])]
        rank += 1
    return rank


class Holds(unittest.TestCase):
    def test_holds_by_going_through_all_pairs(self):
        for cords in (1, 2):
            for family in brute.FAMILIES:
                for many in (1, 2, 3, 4, 5) if cords == 2 else (1, 2, 3):
                    rows = [
                        [int(is_let(figure, top + bottom)) for top, bottom in pairs(cords, many)]
                        for figure in brute.figures_of(cords, family)
                    ]
                    self.assertEqual(hold(cords, family, many), rank_by_fractions(rows))

    def test_holds_of_three_cords(self):
        for family in brute.FAMILIES:
            figures = brute.figures_of(3, family)
            if len(figures) <= 100:
                rows = [[int(is_let(figure, top + bottom)) for top, bottom in pairs(3, 2)] for figure in figures]
                self.assertEqual(hold(3, family, 2), rank_by_fractions(rows))
                for many in (6, 7, MOST):
                    self.assertEqual(hold(3, family, many), len(figures))

    def test_a_lot_that_holds_out_is_as_great_whatever_it_begins_with(self):
        source = random.Random(4)
        for cords, family, many in [(2, ALL, 2), (2, ALL, 3), (3, ("swap",), 2), (3, ("cut", "swap"), 2), (2, ALL, 1)]:
            figures = list(brute.figures_of(cords, family))
            for _ in range(5):
                source.shuffle(figures)
                rows = []
                for figure in figures:
                    row = [int(is_let(figure, top + bottom)) for top, bottom in pairs(cords, many)]
                    if rank_by_fractions(rows + [row]) == len(rows) + 1:
                        rows.append(row)
                self.assertEqual(hold(cords, family, many), len(rows))

    def test_holds_of_all_figures(self):
        for cords in (1, 2):
            for many in range(1, 2 * cords + 2):
                few = [figure for figure in brute.all_figures(cords) if max(figure) < many]
                self.assertEqual(hold(cords, ALL, many), len(few))
                self.assertEqual(hold(cords, ("cut", "join", "swap"), many), len(few))

    def test_holds_of_exchanges(self):
        for cords in (1, 2, 3, 4):
            for many in (1, 2, 3, 4, MOST):
                few = []
                for order in itertools.permutations(range(cords)):
                    # Two cords cross if their bottom points are the other way round.
                    lots = itertools.combinations(order, many + 1) if many < cords else ()
                    if not any(list(lot) == sorted(lot, reverse=True) for lot in lots):
                        few.append(order)
                self.assertEqual(hold(cords, ("swap",), many), len(few))

    def test_families_that_are_too_great(self):
        for cords in (1, 2, 3, 4, 5):
            for family in brute.FAMILIES:
                size = len(brute.figures_of(cords, family)) if cords < 4 else None
                if cords == 5:
                    small = family in [("cut",), ("hook",), ("join",)]
                    for many in (1, 10, MOST):
                        self.assertEqual(told_of(hold, cords, family, many), (TooGreat, (5000 if small else 100,)))
                elif size is not None and size > 100:
                    self.assertEqual(told_of(hold, cords, family, 2), (TooGreat, (100,)))
                self.assertEqual(told_of(hold, cords, family, 0), (BadNumber, (0,)))
        self.assertEqual(told_of(hold, 4, ("hook", "swap"), 2), (TooGreat, (100,)))
        self.assertEqual(hold(4, ("hook", "join"), MOST), 55)


class Letting(unittest.TestCase):
    def test_by_going_through_the_figures(self):
        for cords, many in [(1, 1), (1, 3), (2, 2), (2, 4), (3, 2)]:
            for family in brute.FAMILIES:
                figures = brute.figures_of(cords, family)
                for top, bottom in pairs(cords, many)[::1 if cords < 3 else 9]:
                    let = [figure for figure in figures if is_let(figure, top + bottom)]
                    self.assertEqual(letting(cords, family, many, top, bottom), len(let))

    def test_families_that_are_too_great(self):
        for family in [ALL, ("cut", "join"), ("cut", "hook", "swap")]:
            pair = ((0,) * 5, (1,) * 5)
            self.assertEqual(told_of(letting, 5, family, 2, *pair), (TooGreat, (5000,)))
            self.assertEqual(told_of(letting, 5, family, 2, (0,) * 5, (2,) * 5), (BadColours, (0,)))
        self.assertEqual(letting(5, ("swap",), MOST, (0,) * 5, (0,) * 5), 120)
        self.assertEqual(letting(5, ("swap",), MOST, (0, 0, 0, 7, 7), (7, 0, 0, 7, 0)), 12)


class Refusals(unittest.TestCase):
    def test_one_ahead_of_the_other(self):
        wrong = ((LESS[0][0], 0),)
        self.assertEqual(told_of(shown, 6, wrong, 0, None, None), (BadCords, (6,)))
        self.assertEqual(told_of(shown, 2, wrong, 0, None, None), (BadSum, (0,)))
        self.assertEqual(told_of(shown, 2, LESS, 0, None, None), (BadNumber, (0,)))
        self.assertEqual(told_of(shown, 2, LESS, 2, (0, 2), None), (BadColours, (1,)))
        self.assertEqual(told_of(shown, 2, LESS, 2, (0, 1), None), (BadColours, (None,)))
        self.assertEqual(told_of(row_sum, 2, (("hook", 1),), 0), (BadRow, (0,)))
        self.assertEqual(told_of(power_sum, 2, wrong, 65, 0), (BadSum, (0,)))
        self.assertEqual(told_of(power_sum, 2, LESS, 65, 0), (BadNumber, (65,)))
        self.assertEqual(told_of(power_sum, 2, LESS, 64, 0), (BadNumber, (0,)))
        self.assertEqual(told_of(upon_sum, 2, LESS, wrong, 0), (BadSum, (0,)))
        self.assertEqual(told_of(letting, 2, ("swap", "cut"), 0, None, None), (BadFamily, (1,)))
        self.assertEqual(told_of(hold, 5, (), 0), (BadFamily, (None,)))

    def test_what_is_told_is_new_and_arguments_stay(self):
        terms = (((0, 0, 1, 1), 5),)
        self.assertEqual(added(2, terms, LESS), added(2, terms, LESS))
        self.assertEqual(terms, (((0, 0, 1, 1), 5),))
        self.assertIs(type(need_sum(2, terms)), tuple)
