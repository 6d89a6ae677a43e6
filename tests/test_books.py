"""Books: [46], [47], [49], by joining lots again and again until nothing is left to join, and the refusals there."""

import itertools
import random
import unittest

from hookedcords.books import (
    does_follow, least_figure, least_part, lot_count, lot_of, lot_table, lots_of, need_book, rows_follow, says,
    spare_pairs, unsaid_pairs,
)
from hookedcords.errors import BadBook, BadCords, BadFamily, BadFigure, BadRow, TooGreat
from tests import brute
from tests.brute import figures_of, told_of, upon

STRAIGHT = (0, 1, 2, 3, 4) * 2
CROSSED = (0, 1, 2, 3, 4, 1, 0, 2, 3, 4)
SMALL = list(brute.small_families(31))
FOUR = (0, 1, 2, 3) * 2


def lots_by_hand(cords, family, book):
    """LOTS by a book: all X upon P upon Y and X upon Q upon Y hang together."""
    figures = figures_of(cords, family)
    edges = {
        (upon(cords, one, near, two), upon(cords, one, far, two))
        for near, far in book for one in figures for two in figures
    }
    lots = brute.components(figures, edges)
    return brute.by_labels([next(at for at, lot in enumerate(lots) if figure in lot) for figure in figures])


def some_books(cords, family, many, seed=5):
    source = random.Random(seed * 1000 + cords * 100 + len(family))
    figures = figures_of(cords, family)
    books = [()]
    for _ in range(many):
        book = [(source.choice(figures), source.choice(figures)) for _ in range(source.randint(1, 6))]
        # Some pairs come again.
        books.append(tuple(source.choice(book) if source.random() < 0.2 else pair for pair in book))
    return books


def some_cases(many=4):
    for cords, family in SMALL:
        for book in some_books(cords, family, many if len(figures_of(cords, family)) < 20 else 2):
            yield cords, family, book


class Lots(unittest.TestCase):
    def test_lots_by_joining(self):
        for cords, family, book in some_cases():
            lots = lots_by_hand(cords, family, book)
            self.assertEqual(lots_of(cords, family, book), lots)
            self.assertEqual(lot_count(cords, family, book), len(set(lots)))
            figures = figures_of(cords, family)
            for at, figure in list(enumerate(figures))[::3]:
                lot = tuple(one for one, number in zip(figures, lots) if number == lots[at])
                self.assertEqual(lot_of(cords, family, book, figure), lot)
                self.assertEqual(least_figure(cords, family, book, figure), lot[0])
                for other in figures[::5]:
                    self.assertIs(does_follow(cords, family, book, figure, other), other in lot)

    def test_single_pairs_by_joining(self):
        for cords, family in brute.small_families(12):
            for pair in itertools.combinations(figures_of(cords, family), 2):
                self.assertEqual(lots_of(cords, family, (pair,)), lots_by_hand(cords, family, (pair,)))

    def test_lots_of_greater_families_go_well(self):
        for cords, family in [(3, brute.WORDS), (4, ("hook", "swap")), (5, ("hook", "join")), (5, ("cut", "hook"))]:
            figures = figures_of(cords, family)
            book = ((figures[3], figures[-5]), (figures[7], figures[7]))
            lots = lots_of(cords, family, book)
            number = dict(zip(figures, lots))
            firsts = [figures[lots.index(lot)] for lot in lots]
            self.assertEqual(number[figures[3]], number[figures[-5]])
            for deed in brute.deeds_of(cords, family):
                shape = brute.deed_figure(cords, deed)
                for figure, first in zip(figures, firsts):
                    self.assertEqual(number[upon(cords, shape, figure)], number[upon(cords, shape, first)])
                    self.assertEqual(number[upon(cords, figure, shape)], number[upon(cords, first, shape)])
            self.assertEqual(lots_of(cords, family, ()), tuple(range(len(figures))))

    def test_rows_that_follow(self):
        for cords, family, book in some_cases(2):
            rows = brute.some_rows(cords, 8, 6, words=family) + [()]
            for row, far_row in zip(rows, rows[1:]):
                told = brute.row_told(cords, row)[0], brute.row_told(cords, far_row)[0]
                self.assertIs(
                    rows_follow(cords, family, book, row, far_row), does_follow(cords, family, book, *told))

    def test_tables(self):
        for cords, family, book in some_cases(3):
            figures, lots = figures_of(cords, family), lots_by_hand(cords, family, book)
            table = lot_table(cords, family, book)
            self.assertEqual([len(row) for row in table], [len(set(lots))] * len(set(lots)))
            number = dict(zip(figures, lots))
            for one, two in list(itertools.product(figures, repeat=2))[::1 if len(figures) < 9 else 5]:
                self.assertEqual(table[number[one]][number[two]], number[upon(cords, one, two)])

    def test_without_deeds(self):
        straight = (0, 0)
        for family in (("hook",), ("join", "swap"), ("hook", "join", "swap")):
            for book in ((), ((straight, straight),) * 6):
                self.assertEqual(lots_of(1, family, book), (0,))
                self.assertEqual(lot_table(1, family, book), ((0,),))
                self.assertEqual(spare_pairs(1, family, book), tuple(range(len(book))))
                self.assertEqual(least_part(1, family, book), ())
                self.assertIs(rows_follow(1, family, book, (), ()), True)


class Saying(unittest.TestCase):
    def test_what_books_say(self):
        for cords, family in SMALL:
            books = some_books(cords, family, 4, seed=9)
            for book, far_book in zip(books, books[1:] + books[:2]):
                number = dict(zip(figures_of(cords, family), lots_by_hand(cords, family, book)))
                unsaid = tuple(at for at, (near, far) in enumerate(far_book) if number[near] != number[far])
                self.assertEqual(unsaid_pairs(cords, family, book, far_book), unsaid)
                self.assertIs(says(cords, family, book, far_book), unsaid == ())
                self.assertIs(says(cords, family, book, ()), True)
                self.assertIs(says(cords, family, book, book[::-1]), True)

    def test_spare_pairs_and_least_parts(self):
        for cords, family, book in some_cases(4):
            whole = lots_by_hand(cords, family, book)

            def is_as_much(numbers):
                return lots_by_hand(cords, family, tuple(book[at] for at in numbers)) == whole

            numbers = range(len(book))
            spare = tuple(at for at in numbers if is_as_much([one for one in numbers if one != at]))
            self.assertEqual(spare_pairs(cords, family, book), spare)
            part = next(
                part for many in range(7) for part in itertools.combinations(numbers, many) if is_as_much(part))
            self.assertEqual(least_part(cords, family, book), part)

    def test_equal_pairs(self):
        straight, crossed, hooked = (0, 1, 0, 1), (0, 1, 1, 0), (0, 0, 1, 1)
        pair = (straight, crossed)
        self.assertEqual(spare_pairs(2, ("hook", "swap"), (pair, pair)), (0, 1))
        self.assertEqual(least_part(2, ("hook", "swap"), (pair, pair)), (0,))
        self.assertEqual(spare_pairs(2, ("hook", "swap"), (pair, (hooked, hooked))), (1,))
        self.assertEqual(least_part(2, ("hook", "swap"), ((hooked, hooked), pair, pair[::-1])), (1,))
        # Straight as a hook says all at once.
        self.assertEqual(least_part(2, ("hook", "swap"), (pair, (straight, hooked))), (1,))
        self.assertEqual(lots_of(2, ("hook", "swap"), (pair,)), (0, 1, 1))

    def test_parts_are_compared_as_tuples(self):
        # Each of both pairs of pairs says all; the first is told.
        figures = figures_of(2, ("cut",))
        alone, first, second, whole = figures[-1], (0, 1, 2, 1), (0, 1, 0, 2), (0, 1, 0, 1)
        book = ((whole, alone), (first, alone), (second, alone), (whole, first), (whole, second))
        self.assertEqual(least_part(2, ("cut",), book), (0,))
        self.assertEqual(least_part(2, ("cut",), book[1:]), (0, 2))
        self.assertEqual(least_part(2, ("cut",), book[:0:-1]), (0, 1))


class Refusals(unittest.TestCase):
    def test_need_book(self):
        pair = ((0, 1, 0, 1), (0, 0, 1, 1))
        for book in ((), (pair,), (pair,) * 6, ((pair[0], pair[0]),)):
            self.assertIs(need_book(2, ("hook",), book), book)
        self.assertEqual(told_of(need_book, 2, ("hook",), (pair,) * 7), (BadBook, (None,)))
        self.assertEqual(told_of(need_book, 2, ("hook",), [pair]), (BadBook, (None,)))
        for wrong in [None, pair[0], pair[:1], pair + pair[:1], list(pair), (pair[0], None), (pair[0], (0, 0, 0, 0)),
                      (pair[0], (0, 1, 0)), ((0, True, 0, 1), pair[1]), (pair[0], list(pair[1])), 3, "ab", ((), ())]:
            self.assertEqual(told_of(need_book, 2, ("hook",), (pair, pair, wrong, None)), (BadBook, (2,)))
        self.assertEqual(told_of(need_book, 2, ("hook", "hook"), (None,)), (BadFamily, (1,)))
        self.assertEqual(told_of(need_book, 9, (), None), (BadCords, (9,)))

    def test_need_book_is_never_too_great(self):
        for family in brute.FAMILIES:
            self.assertEqual(need_book(5, family, ((STRAIGHT, STRAIGHT),)), ((STRAIGHT, STRAIGHT),))
        self.assertEqual(told_of(need_book, 5, ("cut", "join"), ((STRAIGHT, CROSSED),)), (BadBook, (0,)))

    def calls(self, cords, family, book, figure):
        yield lots_of, (cords, family, book)
        yield lot_count, (cords, family, book)
        yield lot_of, (cords, family, book, figure)
        yield least_figure, (cords, family, book, figure)
        yield does_follow, (cords, family, book, figure, figure)
        yield rows_follow, (cords, family, book, (), ())
        yield lot_table, (cords, family, book)
        yield says, (cords, family, book, book)
        yield unsaid_pairs, (cords, family, book, book)
        yield spare_pairs, (cords, family, book)
        yield least_part, (cords, family, book)

    def test_too_great_behind_the_others(self):
        great = [(5, ("cut", "swap")), (5, ("join", "swap")), (5, brute.WORDS), (5, ("cut", "hook", "swap"))]
        for cords, family in great + [(4, ("cut", "join")), (4, brute.WORDS)]:
            straight = tuple(range(cords)) * 2
            for book in ((), ((straight, straight),)):
                for call, values in self.calls(cords, family, book, straight):
                    self.assertEqual(told_of(call, *values), (TooGreat, (1000,)))
            for call, values in self.calls(cords, family, (None,), straight):
                self.assertEqual(told_of(call, *values), (BadBook, (0,)))
        for call in (lot_of, least_figure):
            self.assertEqual(told_of(call, 4, ("cut", "join"), (), (0, 1, 2, 3, 1, 0, 2, 3)), (BadFigure, ("family",)))
            self.assertEqual(told_of(call, 4, ("cut", "join"), (), (0, 1, 2, 3, 1, 0, 2, True)), (BadFigure, (7,)))
        for call in (says, unsaid_pairs):
            self.assertEqual(told_of(call, 4, ("cut", "join"), (), ((FOUR, (0,) * 7),)), (BadBook, (0,)))

    def test_not_too_great(self):
        # 945 figures, and 764.
        self.assertEqual(lot_count(5, ("hook", "swap"), ((STRAIGHT, CROSSED),)), 2)
        self.assertEqual(lot_count(4, ("cut", "hook", "swap"), ()), 764)

    def test_too_many_lots(self):
        self.assertEqual(told_of(lot_table, 4, ("hook", "swap"), ()), (TooGreat, (60,)))
        self.assertEqual(told_of(lot_table, 5, ("swap",), ()), (TooGreat, (60,)))
        self.assertEqual(lot_table(5, ("swap",), ((STRAIGHT, CROSSED),)), ((0,),))
        self.assertEqual(len(lot_table(3, ("hook", "join", "swap"), ())), 31)
        sixty = (
            ((0, 1, 1, 0, 2, 3, 3, 4), (0, 1, 2, 3, 4, 1, 5, 3)), ((0, 1, 2, 2, 0, 3, 4, 4), (0, 1, 2, 3, 0, 4, 5, 6)))
        one_more = (
            ((0, 1, 1, 2, 0, 3, 3, 4), (0, 1, 2, 3, 0, 4, 5, 5)), ((0, 0, 1, 2, 3, 3, 4, 2), (0, 1, 2, 3, 4, 5, 6, 3)))
        self.assertEqual(lot_count(4, ("cut", "hook"), sixty), 60)
        self.assertEqual(len(lot_table(4, ("cut", "hook"), sixty)), 60)
        self.assertEqual(lot_count(4, ("cut", "hook"), one_more), 61)
        self.assertEqual(told_of(lot_table, 4, ("cut", "hook"), one_more), (TooGreat, (60,)))

    def test_figures_and_rows(self):
        book = (((0, 1, 0, 1), (0, 0, 1, 1)),)
        self.assertEqual(told_of(does_follow, 2, ("hook",), book, (0, 0, 0, 0), None), (BadFigure, ("family",)))
        self.assertEqual(told_of(does_follow, 2, ("hook",), book, (0, 0, 1, 1), (0, 0, 1, 3)), (BadFigure, (3,)))
        self.assertEqual(told_of(does_follow, 2, ("hook",), None, None, None), (BadBook, (None,)))
        hook, cut = ("hook", 0), ("cut", 0)
        for row, number in [(None, None), ((hook,) * 41, None), ((hook, ("hook", 1)), 1), ((hook, cut), 1),
                            ((cut, ("hook", 1)), 1), ((cut, hook), 0), ((hook, ("swap", 0), cut), 1)]:
            self.assertEqual(told_of(rows_follow, 2, ("hook",), book, row, None), (BadRow, (number,)))
            self.assertEqual(told_of(rows_follow, 2, ("hook",), book, (hook,), row), (BadRow, (number,)))
        self.assertEqual(told_of(rows_follow, 4, ("cut", "join"), (), (("swap", 0),), None), (BadRow, (0,)))
        self.assertEqual(told_of(rows_follow, 4, ("cut", "join"), (), (("cut", 0),), ()), (TooGreat, (1000,)))
        self.assertIs(rows_follow(2, ("hook",), book, (hook,) * 40, ()), True)
