"""Powers: [34], [35], [37], by putting figures upon themselves again and again, and by doubling."""

import unittest

from hookedcords.errors import BadCords, BadFigure, BadNumber
from hookedcords.powers import (
    comes_round, does_stay, exchange_within, power, power_leftovers, powers_of, ranks_of, staying_power,
)
from tests import brute
from tests.brute import told_of

MOST = 10 ** 9


def again(cords, figure, many):
    """Two lists: the powers 0 to many and their leftovers."""
    powers, left = [tuple(range(cords)) * 2], [0]
    for _ in range(many):
        further, more = brute.put(cords, powers[-1], figure)
        powers.append(further)
        left.append(left[-1] + more)
    return powers, left


def by_doubling(cords, figure, many):
    """The pair of a power and its leftovers, from its halves."""
    if many == 0:
        return tuple(range(cords)) * 2, 0
    half, left = by_doubling(cords, figure, many // 2)
    whole, more = brute.put(cords, half, half)
    left = 2 * left + more
    if many % 2:
        whole, more = brute.put(cords, whole, figure)
        left += more
    return whole, left


def order_of(exchange):
    """The least number of times after which an exchange leaves each where it is."""
    here, many = list(exchange), 1
    while here != sorted(here):
        here = [exchange[one] for one in here]
        many += 1
    return many


class Powers(unittest.TestCase):
    def test_the_first_powers_and_leftovers(self):
        for cords, figure in brute.many_figures():
            powers, left = again(cords, figure, 15)
            for many in (0, 1, 2, 3, 4, 5, 6, 7, 11, 15):
                self.assertEqual(power(cords, figure, many), powers[many])
                self.assertEqual(power_leftovers(cords, figure, many), left[many])
            self.assertEqual((power(cords, figure, 0), power_leftovers(cords, figure, 0)), (powers[0], 0))
            self.assertEqual((power(cords, figure, 1), power_leftovers(cords, figure, 1)), (figure, 0))

    def test_the_greatest_numbers(self):
        for cords, figure in list(brute.many_figures())[::5]:
            for many in (MOST, MOST - 1, MOST - 2, MOST - 3, MOST - 4, MOST - 5, 720721):
                told = power(cords, figure, many), power_leftovers(cords, figure, many)
                self.assertEqual(told, by_doubling(cords, figure, many))

    def test_leftovers_grow_by_the_same_with_every_whole_step(self):
        for figure in brute.some_figures(5, 400, seed=2) + brute.all_figures(3):
            cords = len(figure) // 2
            first, step = comes_round(cords, figure)
            left = [power_leftovers(cords, figure, first + many) for many in range(step + 1)]
            for many in (1, 2, 5):
                for at in range(step):
                    told = power_leftovers(cords, figure, first + at + many * step)
                    self.assertEqual(told, left[at] + many * (left[-1] - left[0]))

    def test_round(self):
        for cords, figure in brute.many_figures():
            powers, _ = again(cords, figure, 40)
            first, step = comes_round(cords, figure)
            told = next(
                (low, far) for low in range(20) for far in range(1, 13)
                if all(powers[at] == powers[at + far] for at in range(low, 25)))
            self.assertEqual((first, step), told)
            self.assertEqual(powers_of(cords, figure), tuple(powers[:first + step]))
            self.assertEqual(len(set(powers[:first + step])), first + step)
            self.assertIs(first == 0, brute.belongs(cords, ("swap",), figure))
            self.assertEqual(ranks_of(cords, figure), tuple(len(brute.through(cords, one)) for one in powers[:first + 1]))
            ranks = [len(brute.through(cords, one)) for one in powers]
            self.assertEqual(ranks, sorted(ranks, reverse=True))
            self.assertEqual(len(set(ranks[first:])), 1)

    def test_staying(self):
        for cords, figure in brute.many_figures():
            powers, _ = again(cords, figure, 24)
            self.assertIs(does_stay(cords, figure), powers[2] == figure)
            still = [many for many in range(1, 25) if brute.put(cords, powers[many], powers[many])[0] == powers[many]]
            self.assertEqual(len({powers[many] for many in still}), 1)
            self.assertEqual(staying_power(cords, figure), (still[0], powers[still[0]]))
            self.assertIs(does_stay(cords, brute.upon(cords, figure, brute.over(cords, figure))), True)

    def test_exchange_within(self):
        for cords, figure in brute.many_figures():
            still = staying_power(cords, figure)[1]
            taken = brute.put(cords, still, figure)[0]
            names = {piece: at for at, piece in enumerate(brute.through(cords, still))}
            told = {}
            for top in range(cords):
                for bottom in range(cords, 2 * cords):
                    if taken[top] == taken[bottom] and still[top] in names:
                        told.setdefault(names[still[top]], set()).add(names[still[bottom]])
            exchange = exchange_within(cords, figure)
            self.assertEqual({at: {one} for at, one in enumerate(exchange)}, told)
            self.assertEqual(sorted(exchange), list(range(len(names))))
            self.assertEqual(comes_round(cords, figure)[1], order_of(exchange))
            self.assertEqual(len(exchange), ranks_of(cords, figure)[-1])

    def test_exchanges_of_swaps(self):
        # A figure of swaps takes each top place to the bottom place that hangs with it.
        for figure in [(0, 1, 2, 1, 2, 0), (0, 1, 2, 3, 4, 4, 0, 1, 2, 3), (0, 1, 2, 3, 4, 1, 0, 4, 2, 3)]:
            cords = len(figure) // 2
            self.assertEqual(exchange_within(cords, figure), tuple(figure[cords:].index(place) for place in range(cords)))
        self.assertEqual(comes_round(5, (0, 1, 2, 3, 4, 1, 0, 4, 2, 3)), (0, 6))

    def test_the_documents_example(self):
        hooked = (0, 0, 1, 1)
        self.assertEqual(comes_round(2, hooked), (1, 1))
        self.assertEqual(power_leftovers(2, hooked, 10), 9)
        self.assertEqual(power_leftovers(2, hooked, MOST), MOST - 1)
        self.assertEqual(exchange_within(2, hooked), ())
        self.assertEqual(ranks_of(2, hooked), (2, 0))
        self.assertEqual(ranks_of(2, (0, 1, 1, 0)), (2,))


class Refusals(unittest.TestCase):
    def test_numbers(self):
        for call in (power, power_leftovers):
            for wrong in (-1, MOST + 1, True, False, None, "1", (1,), 10 ** 999):
                self.assertEqual(told_of(call, 2, (0, 0, 1, 1), wrong), (BadNumber, (wrong,)))
            self.assertEqual(told_of(call, 2, (0, 0, 1, 3), True), (BadFigure, (3,)))
            self.assertEqual(told_of(call, 6, None, True), (BadCords, (6,)))

    def test_figures(self):
        for call in (comes_round, powers_of, does_stay, staying_power, exchange_within, ranks_of):
            self.assertEqual(told_of(call, 2, (0, True, 1, 1)), (BadFigure, (1,)))
            self.assertEqual(told_of(call, 2, (0, 0, 1)), (BadFigure, (None,)))
            self.assertEqual(told_of(call, 0, (0, 0, 1)), (BadCords, (0,)))
