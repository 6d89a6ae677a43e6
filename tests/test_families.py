"""Families and the faults of figures in them: [15], [21], [22], [24]."""

import itertools
import unittest

from hookedcords.families import (
    all_families, families_with, family_deeds, fault, first_family, has_figure, holds_family, is_fault,
    least_families, same_families, words_of,
)
from tests import brute

# What is no fault of any figure of two cords in any family.
NO_FAULTS = [
    None, True, False, 0, "piece", "", (), ("piece",), ("piece", 0, 0), ["piece", 0], ("piece", None),
    ("piece", "0"), ("piece", -1), ("piece", 4), ("piece", 10 ** 999), ("piece", (0,)), ("piece", True),
    ("piece", False), ("Piece", 0), (0, "piece"), (("piece",), 0), ("cross", None), ("cross", 0), ("cross", ()),
    ("cross", (0, 1, 2)), ("cross", (0, 1, 2, 3, 4)), ("cross", [0, 1, 2, 3]), ("cross", (0, 1, 3, 2)),
    ("cross", (1, 0, 2, 3)), ("cross", (0, 1, 2, 4)), ("cross", (-1, 0, 1, 2)), ("cross", (False, True, 2, 3)),
    ("cross", (0, True, 2, 3)), ("cross", ("0", "1", "2", "3")), ("cross", (0, 1, 2, 2)), ("cross", "0123"),
    ("cross", ((0, 1), (2, 3))), ("between", None), ("between", (0,)), ("between", (0, 2, 1)),
    ("between", [0, 2]), ("between", (2, 0)), ("between", (0, 4)), ("between", (-2, 0)), ("between", (0, 0)),
    ("between", (False, 2)), ("between", (True, 3)), ("between", (0, "2")), ("between", (0, 1)),
    ("other", 0), ("other", (0, 2)), object(), {}, {"piece": 0}, b"piece", (b"piece", 0),
]


def piece_is_let(cords, family, piece):
    """Whether the family lets a piece, in the words of [22] and the order there."""
    top = [point for point in piece if point < cords]
    bottom = [point - cords for point in piece if point >= cords]
    single = len(piece) == 1
    two = len(piece) == 2
    if "join" not in family:
        lets = [single and "cut" in family, two and "hook" in family]
        if "swap" in family and "hook" not in family:
            lets.append(len(top) == 1 and len(bottom) == 1)
        if "swap" not in family and "hook" not in family:
            lets.append(len(top) == 1 and top == bottom)
        return any(lets)
    if "cut" in family:
        return True
    if "hook" in family:
        return len(piece) in (2, 4, 6, 8, 10)
    if "swap" in family:
        return len(top) == len(bottom)
    return top == bottom and set(top) == set(range(min(top), max(top) + 1))


def all_faults(cords, family, figure):
    """All faults in their order, by going through all tuples of places going round."""
    found = []
    for number, piece in enumerate(brute.pieces(figure)):
        if not piece_is_let(cords, family, piece):
            found.append(("piece", number))
    around = [figure[point] for point in brute.ring(cords)]
    if "swap" not in family:
        for one, two, three, four in itertools.combinations(range(2 * cords), 4):
            if around[one] == around[three] != around[two] == around[four]:
                found.append(("cross", (one, two, three, four)))
    if family == ("cut", "hook"):
        for one, two in itertools.combinations(range(2 * cords), 2):
            if around[one] == around[two] and len(range(one + 1, two)) in (1, 3, 5, 7, 9):
                found.append(("between", (one, two)))
    return found


class Words(unittest.TestCase):
    def test_the_fifteen_ascend(self):
        told = all_families()
        self.assertEqual(list(told), brute.FAMILIES)
        self.assertEqual((len(told), told[0], told[-1]), (15, ("cut",), ("swap",)))
        self.assertIs(type(told), tuple)

    def test_deeds_of_families(self):
        self.assertEqual(family_deeds(2, ("cut", "swap")), (("cut", 0), ("cut", 1), ("swap", 0)))
        for cords in range(1, 6):
            for family in brute.FAMILIES:
                self.assertEqual(family_deeds(cords, family), tuple(sorted(brute.deeds_of(cords, family))))
        self.assertEqual(family_deeds(1, ("hook", "join", "swap")), ())

    def test_words_of_rows(self):
        self.assertEqual(words_of(3, ()), ())
        self.assertEqual(words_of(3, (("swap", 1), ("cut", 0), ("swap", 0))), ("cut", "swap"))
        for row in brute.some_rows(4, 50, 6):
            self.assertEqual(words_of(4, row), tuple(word for word in brute.WORDS if word in dict(row)))
            if row:
                self.assertTrue(has_figure(4, words_of(4, row), brute.row_told(4, row)[0]))


class Having(unittest.TestCase):
    def test_families_have_just_the_figures_of_their_rows(self):
        for cords in (1, 2, 3):
            for family in brute.FAMILIES:
                made = brute.closure(cords, family)
                for figure in brute.all_figures(cords):
                    self.assertIs(has_figure(cords, family, figure), figure in made, (family, figure))

    def test_families_by_the_facts(self):
        for cords in (2, 3):
            for figure, family in itertools.product(brute.all_figures(cords), brute.FAMILIES):
                self.assertIs(has_figure(cords, family, figure), brute.belongs(cords, family, figure))
        for cords in (4, 5):
            figures = brute.some_figures(cords, 150)
            for words in brute.FAMILIES:
                figures += [brute.row_told(cords, row)[0] for row in brute.some_rows(cords, 25, 9, words=words)]
            for figure, family in itertools.product(figures, brute.FAMILIES):
                self.assertIs(has_figure(cords, family, figure), brute.belongs(cords, family, figure))

    def test_a_family_has_with_a_figure_the_figure_turned_over(self):
        for cords in (2, 3):
            for figure, family in itertools.product(brute.all_figures(cords), brute.FAMILIES):
                over = brute.by_labels(figure[cords:] + figure[:cords])
                self.assertIs(has_figure(cords, family, over), has_figure(cords, family, figure))

    def test_one_cord(self):
        for family in brute.FAMILIES:
            self.assertIs(has_figure(1, family, (0, 0)), True)
            self.assertIs(has_figure(1, family, (0, 1)), "cut" in family)


class Faults(unittest.TestCase):
    def test_examples(self):
        self.assertEqual(fault(2, ("hook",), (0, 1, 1, 0)), ("cross", (0, 1, 2, 3)))
        self.assertEqual(fault(2, ("hook",), (0, 0, 0, 1)), ("piece", 0))
        self.assertIsNone(fault(2, ("hook", "swap"), (0, 1, 1, 0)))
        self.assertIsNone(fault(3, ("cut", "hook"), (0, 1, 2, 3, 4, 0)))
        self.assertEqual(fault(3, ("cut", "hook"), (0, 1, 0, 2, 3, 4)), ("between", (0, 2)))

    def test_the_first_fault_and_all_faults(self):
        for cords in (1, 2, 3):
            for family in brute.FAMILIES:
                for figure in brute.all_figures(cords):
                    told = all_faults(cords, family, figure)
                    self.assertEqual(fault(cords, family, figure), told[0] if told else None)
                    self.assertIs(has_figure(cords, family, figure), not told)

    def test_just_the_faults_are_faults(self):
        for cords in (1, 2, 3):
            places = range(-1, 2 * cords + 1)
            values = [("piece", number) for number in range(-1, 2 * cords + 1)]
            values += [("cross", four) for four in itertools.combinations(places, 4)]
            values += [("between", pair) for pair in itertools.combinations(places, 2)]
            for family in brute.FAMILIES:
                for figure in brute.all_figures(cords)[::1 if cords < 3 else 6]:
                    told = all_faults(cords, family, figure)
                    for value in values:
                        self.assertIs(is_fault(cords, family, figure, value), value in told)

    def test_values_of_any_kind_are_no_faults(self):
        for family in brute.FAMILIES:
            for figure in brute.all_figures(2):
                for value in NO_FAULTS:
                    self.assertIs(is_fault(2, family, figure, value), False, (family, figure, value))

    def test_a_value_that_says_to_be_equal_to_all_is_no_fault(self):
        class Equal:
            def __eq__(self, other):
                return True

        for value in (Equal(), (Equal(), 0), ("piece", Equal()), ("cross", (Equal(),) * 4)):
            self.assertIs(is_fault(2, ("cut",), (0, 0, 0, 0), value), False)

    def test_faults_told_of_five_cords(self):
        for family in brute.FAMILIES:
            for figure in brute.some_figures(5, 12):
                told = all_faults(5, family, figure)
                self.assertEqual(fault(5, family, figure), told[0] if told else None)
                for value in told:
                    self.assertIs(is_fault(5, family, figure, value), True)


class Several(unittest.TestCase):
    def test_families_with_and_least_ones_and_the_first(self):
        for cords in (1, 2, 3):
            made = {family: set(brute.closure(cords, family)) for family in brute.FAMILIES}
            for figure in brute.all_figures(cords):
                having = [family for family in brute.FAMILIES if figure in made[family]]
                least = [one for one in having if not any(set(other) < set(one) for other in having)]
                first = [one for one in having if len(one) == min(len(other) for other in having)][0]
                self.assertEqual(families_with(cords, figure), tuple(having))
                self.assertEqual(least_families(cords, figure), tuple(least))
                self.assertEqual(first_family(cords, figure), first)

    def test_of_straight_and_of_one_piece(self):
        for cords in range(1, 6):
            self.assertEqual(families_with(cords, tuple(range(cords)) * 2), all_families())
            self.assertEqual(least_families(cords, tuple(range(cords)) * 2), (
                ("cut",), ("hook",), ("join",), ("swap",)))
            self.assertEqual(first_family(cords, tuple(range(cords)) * 2), ("cut",))
        self.assertEqual(first_family(3, (0,) * 6), ("join",))

    def test_holding_and_the_same(self):
        for cords in (1, 2, 3):
            made = {family: set(brute.closure(cords, family)) for family in brute.FAMILIES}
            for family in brute.FAMILIES:
                for other in brute.FAMILIES:
                    self.assertIs(holds_family(cords, family, other), made[family] >= made[other])
                same = tuple(other for other in brute.FAMILIES if made[other] == made[family])
                self.assertEqual(same_families(cords, family), same)
        for cords in (2, 3, 4, 5):
            self.assertEqual(same_families(cords, ("cut", "join")), (("cut", "hook", "join"), ("cut", "join")))
            self.assertEqual(same_families(cords, ("hook",)), (("hook",),))

    def test_a_figure_of_two_families_without_a_family_of_both(self):
        # On three cords: the top point 2 hangs with the bottom point 0, all others are single.
        figure = (0, 1, 2, 2, 3, 4)
        self.assertTrue(has_figure(3, ("cut", "hook"), figure))
        self.assertTrue(has_figure(3, ("cut", "swap"), figure))
        for family in families_with(3, figure):
            both = holds_family(3, ("cut", "hook"), family) and holds_family(3, ("cut", "swap"), family)
            self.assertFalse(both)
