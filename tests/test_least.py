"""Fewest deeds: [25], [27], and the order of refusals there."""

import itertools
import unittest

from hookedcords.errors import BadFamily, BadFigure, BadNumber, BadRow, TooGreat
from hookedcords.least import Ladder, by_distance, fewest, how_far, is_shortest, least_row, way
from tests import brute
from tests.brute import told_of

# Families small enough that all rows up to the greatest length are gone through.
SMALL = [(2, family) for family in brute.FAMILIES] + [(1, family) for family in brute.FAMILIES] + [
    (3, family) for family in brute.FAMILIES if len(family) == 1 or family in [
        ("cut", "hook"), ("cut", "swap"), ("hook", "join"), ("hook", "swap"), ("join", "swap"),
        ("hook", "join", "swap")]
] + [(4, ("hook",)), (4, ("swap",)), (4, ("join",)), (4, ("cut",))]
GREAT = [("cut", "hook", "join"), ("cut", "hook", "join", "swap"), ("cut", "hook", "swap"), ("cut", "join"),
         ("cut", "join", "swap"), ("hook", "join", "swap")]
STRAIGHT = (0, 1, 2, 3, 4) * 2


def shortest_rows(cords, family):
    """For each figure the ascending list of its shortest rows, by going through all rows."""
    many = len(brute.closure(cords, family))
    found = {}
    for row in brute.rows_up_to(cords, family, 20):
        figure = brute.row_told(cords, row)[0]
        if figure not in found or len(found[figure][0]) == len(row):
            found.setdefault(figure, []).append(row)
        if len(found) == many and len(row) > max(len(rows[0]) for rows in found.values()):
            return found
    return found


class Shortest(unittest.TestCase):
    def test_all_shortest_rows_of_small_families(self):
        for cords, family in SMALL:
            found = shortest_rows(cords, family)
            ladder = Ladder(cords, family)
            self.assertEqual((ladder.cords, ladder.family), (cords, family))
            for figure, rows in found.items():
                self.assertEqual(rows, sorted(rows))
                self.assertEqual(ladder.length_of(figure), len(rows[0]))
                self.assertEqual(ladder.least_row(figure), rows[0])
                self.assertEqual(ladder.many_shortest(figure), len(rows))
                for number, row in enumerate(rows):
                    self.assertEqual(ladder.shortest_at(figure, number), row)
                    self.assertEqual(ladder.number_of(row), number)
                for wrong in (-1, len(rows), True, None, "0", (0,)):
                    self.assertEqual(told_of(ladder.shortest_at, figure, wrong), (BadNumber, (wrong,)))
            self.assertEqual(told_of(ladder.shortest_at, STRAIGHT[:cords] * 2, False), (BadNumber, (False,)))

    def test_by_length_and_farthest(self):
        for cords, family in SMALL:
            found = shortest_rows(cords, family)
            ladder = Ladder(cords, family)
            greatest = max(len(rows[0]) for rows in found.values())
            for length in range(greatest + 3):
                told = tuple(sorted(figure for figure, rows in found.items() if len(rows[0]) == length))
                self.assertEqual(ladder.of_length(length), told)
            self.assertEqual(
                ladder.by_length(), tuple(len(ladder.of_length(length)) for length in range(greatest + 1)))
            self.assertEqual(ladder.farthest(), ladder.of_length(greatest))
            self.assertEqual(ladder.of_length(10 ** 999), ())
            for wrong in (-1, True, None, "0", (0,)):
                self.assertEqual(told_of(ladder.of_length, wrong), (BadNumber, (wrong,)))

    def test_rows_that_are_not_shortest(self):
        for cords, family in SMALL:
            found = shortest_rows(cords, family)
            ladder = Ladder(cords, family)
            for row in itertools.islice(brute.rows_up_to(cords, family, 4), 200):
                rows = found[brute.row_told(cords, row)[0]]
                self.assertEqual(ladder.number_of(row), rows.index(row) if row in rows else None)
                self.assertIs(is_shortest(cords, family, row), row in rows)
        self.assertIsNone(Ladder(2, ("cut",)).number_of((("cut", 0),) * 40))

    def test_functions_are_as_the_ladder(self):
        for cords, family in SMALL:
            ladder = Ladder(cords, family)
            for figure in list(brute.closure(cords, family))[:8]:
                self.assertEqual(fewest(cords, family, figure), ladder.length_of(figure))
                self.assertEqual(least_row(cords, family, figure), ladder.least_row(figure))

    def test_the_documents_example(self):
        ladder = Ladder(3, ("hook",))
        self.assertEqual(ladder.by_length(), (1, 2, 2))
        self.assertEqual(ladder.least_row((0, 0, 1, 1, 2, 2)), (("hook", 0), ("hook", 1)))

    def test_lengths_of_greater_families(self):
        for cords, family in [(4, brute.WORDS), (5, ("cut", "swap")), (5, ("join", "swap")), (4, ("cut", "join"))]:
            ladder = Ladder(cords, family)
            lengths = brute.closure(cords, family)
            self.assertEqual(sum(ladder.by_length()), len(lengths))
            for figure in list(lengths)[::37]:
                row = ladder.least_row(figure)
                self.assertEqual(brute.row_told(cords, row)[0], figure)
                self.assertEqual((len(row), ladder.length_of(figure)), (lengths[figure], lengths[figure]))
                last = ladder.many_shortest(figure) - 1
                self.assertEqual(ladder.shortest_at(figure, 0), row)
                self.assertEqual(ladder.number_of(ladder.shortest_at(figure, last)), last)
                # Its beginnings are least, its ends are shortest.
                for many in range(len(row)):
                    self.assertEqual(ladder.least_row(brute.row_told(cords, row[:many])[0]), row[:many])
                    self.assertIsNotNone(ladder.number_of(row[many:]))

    def test_turned_over_mirrored_and_one_deed_more(self):
        for cords, family in [(3, family) for family in brute.FAMILIES] + [(4, ("cut", "hook", "swap"))]:
            ladder = Ladder(cords, family)
            for figure in list(brute.closure(cords, family))[::3]:
                length = ladder.length_of(figure)
                over = brute.by_labels(figure[cords:] + figure[:cords])
                glass = brute.by_labels(figure[:cords][::-1] + figure[cords:][::-1])
                self.assertEqual((ladder.length_of(over), ladder.length_of(glass)), (length, length))
                for deed in brute.deeds_of(cords, family):
                    more = brute.put(cords, figure, brute.deed_figure(cords, deed))[0]
                    self.assertLessEqual(ladder.length_of(more), length + 1)


class Refusals(unittest.TestCase):
    def test_the_ladder(self):
        for family in GREAT:
            self.assertEqual(told_of(Ladder, 5, family), (TooGreat, (5000,)))
            self.assertEqual(told_of(fewest, 5, family, STRAIGHT), (TooGreat, (5000,)))
            self.assertEqual(told_of(least_row, 5, family, STRAIGHT), (TooGreat, (5000,)))
            self.assertEqual(told_of(is_shortest, 5, family, ()), (TooGreat, (5000,)))
        self.assertEqual(told_of(Ladder, 6, None)[0].__name__, "BadCords")
        self.assertEqual(told_of(Ladder, 5, ("cut", "join", "cut")), (BadFamily, (2,)))
        ladder = Ladder(2, ("cut",))
        self.assertEqual(told_of(ladder.length_of, (0, 1, 0)), (BadFigure, (None,)))
        self.assertEqual(told_of(ladder.least_row, (0, True, 0, 1)), (BadFigure, (1,)))
        self.assertEqual(told_of(ladder.many_shortest, (0, 0, 0, 0)), (BadFigure, ("family",)))
        self.assertEqual(told_of(ladder.many_shortest, [0, 1, 0, 1]), (BadFigure, (None,)))

    def test_figures_ahead_of_numbers_in_the_ladder(self):
        ladder = Ladder(2, ("cut",))
        self.assertEqual(told_of(ladder.shortest_at, (0, 0, 0, 0), None), (BadFigure, ("family",)))
        self.assertEqual(told_of(ladder.shortest_at, (0, 0, 2, 0), None), (BadFigure, (2,)))
        self.assertEqual(told_of(ladder.shortest_at, (0, 1, 0, 1), None), (BadNumber, (None,)))

    def test_figures_out_of_the_family(self):
        for call in (fewest, least_row):
            self.assertEqual(told_of(call, 2, ("cut",), (0, 0, 0, 0)), (BadFigure, ("family",)))
            self.assertEqual(told_of(call, 5, ("cut", "join"), (0, 1, 2, 3, 4, 1, 0, 2, 3, 4)), (
                BadFigure, ("family",)))
            self.assertEqual(told_of(call, 2, ("cut",), (0, 0, 0, 2)), (BadFigure, (3,)))

    def test_rows_with_another_word(self):
        ladder = Ladder(2, ("cut", "swap"))
        rows = [
            ((("cut", 0), ("hook", 0)), 1), ((("hook", 0), ("cut", 2)), 1), ((("join", 0), None), 1),
            (None, None), ((("cut", 0),) * 41, None), ((("cut", True),), 0), ((("swap", 0), ["cut", 0]), 1),
        ]
        for row, number in rows:
            self.assertEqual(told_of(ladder.number_of, row), (BadRow, (number,)))
            self.assertEqual(told_of(is_shortest, 2, ("cut", "swap"), row), (BadRow, (number,)))
        self.assertEqual(told_of(is_shortest, 5, ("cut", "join"), (("hook", 0),)), (BadRow, (0,)))


class Distances(unittest.TestCase):
    def ways_from(self, cords, family, figure):
        """The least of the shortest rows to each figure that is reached, by going through rows."""
        found = {}
        for row in brute.rows_up_to(cords, family, 20):
            there = brute.put(cords, figure, brute.row_told(cords, row)[0])[0]
            found.setdefault(there, row)
            if len(row) > max(len(one) for one in found.values()) + 1:
                return found
        return found

    def test_ways_by_going_through_rows(self):
        families = [(2, family) for family in brute.FAMILIES if len(family) < 4]
        families += [(1, family) for family in brute.FAMILIES] + [(3, ("hook",)), (3, ("swap",)), (3, ("join",))]
        for cords, family in families:
            for figure in brute.all_figures(cords)[::1 if cords < 3 else 15]:
                found = self.ways_from(cords, family, figure)
                for other in brute.all_figures(cords):
                    row = found.get(other)
                    self.assertEqual(way(cords, family, figure, other), row)
                    self.assertEqual(how_far(cords, family, figure, other), None if row is None else len(row))
                lengths = [len(row) for row in found.values()]
                told = tuple(lengths.count(length) for length in range(max(lengths) + 1))
                self.assertEqual(by_distance(cords, family, figure), told)

    def test_how_far_there_and_back(self):
        for family in brute.FAMILIES:
            some = brute.some_figures(3, 5)
            for one, two, three in itertools.product(some, repeat=3):
                near, far = how_far(3, family, one, two), how_far(3, family, two, three)
                self.assertIs(near == 0, one == two)
                if near is not None and far is not None:
                    self.assertLessEqual(how_far(3, family, one, three), near + far)
                if family == ("swap",):
                    self.assertEqual(how_far(3, family, two, one), near)

    def test_the_figures_reached_count_and_not_the_family(self):
        self.assertEqual(told_of(by_distance, 5, brute.WORDS, STRAIGHT), (TooGreat, (5000,)))
        self.assertEqual(told_of(how_far, 5, brute.WORDS, STRAIGHT, STRAIGHT), (TooGreat, (5000,)))
        self.assertEqual(told_of(way, 5, ("cut", "join"), STRAIGHT, STRAIGHT), (TooGreat, (5000,)))
        one = (0,) * 10
        self.assertEqual(how_far(5, brute.WORDS, one, one), 0)
        below = by_distance(5, brute.WORDS, (0, 0, 0, 0, 0, 1, 1, 1, 1, 1))
        self.assertEqual((below[0], sum(below)), (1, 52))
        self.assertEqual(by_distance(5, ("cut", "hook", "join"), (0, 1, 2, 3, 4, 5, 6, 7, 8, 9))[0], 1)
        self.assertIsNone(way(5, brute.WORDS, (0,) * 5 + (1,) * 5, STRAIGHT))

    def test_any_figures_but_no_wrong_ones(self):
        figure = (0, 0, 1, 1)
        self.assertEqual(way(2, ("swap",), figure, figure), ())
        self.assertEqual(told_of(way, 2, ("swap",), (0, 0, 1), None), (BadFigure, (None,)))
        self.assertEqual(told_of(way, 2, ("swap",), figure, (0, 0, 1, 3)), (BadFigure, (3,)))
        self.assertEqual(told_of(way, 5, brute.WORDS, STRAIGHT, (1,) * 10), (BadFigure, (0,)))
