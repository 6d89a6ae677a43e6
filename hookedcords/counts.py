"""Sums of figures with weights: what they show at pairs of colourings, and when they show nothing."""

from math import gcd

from hookedcords.checks import (
    MOST_CORDS, is_figure, is_tuple_of_at_most, need_colouring, need_cords, need_family, need_number, need_quantity,
    need_row,
)
from hookedcords.colourings import lets_all, times_itself
from hookedcords.errors import BadSum, TooGreat
from hookedcords.halves import ways_to_part
from hookedcords.putting import put_once, row_course, straight_figure
from hookedcords.sizes import MOST_FIGURES, need_at_most, need_few
from hookedcords.walks import figures_in

MOST_TERMS = 200
MOST_TIMES = 64
MOST_HELD = 100


def is_term(cords, value):
    """Whether value, of any kind, is a pair of a figure and an integer other than 0."""
    if type(value) is not tuple or len(value) != 2:
        return False
    figure, weight = value
    return is_figure(cords, figure) and type(weight) is int and weight != 0


def need_sum_told(cords, terms):
    """BadSum of what is no sum."""
    if not is_tuple_of_at_most(terms, MOST_TERMS):
        raise BadSum(None)
    ahead = ()
    for number, term in enumerate(terms):
        if not is_term(cords, term) or term[0] <= ahead:
            raise BadSum(number)
        ahead = term[0]


def need_with_sum(cords, terms):
    """The errors of a number of cords and a sum."""
    need_cords(cords)
    need_sum_told(cords, terms)


def need_short(terms):
    """TooGreat of what has more pairs than a sum."""
    if len(terms) > MOST_TERMS:
        raise TooGreat(MOST_TERMS)


def need_fewer_cords(cords):
    """TooGreat of the cords that have more figures than are gone through."""
    if cords == MOST_CORDS:
        raise TooGreat(MOST_FIGURES)


def sum_of(weights):
    """The pairs of figures and weights, without those that have come to 0, however many there are."""
    return tuple(sorted([(figure, weight) for figure, weight in weights.items() if weight != 0]))


def shown_at(terms, colours):
    """What is shown at a pair of colourings, both put together."""
    return sum([weight for figure, weight in terms if lets_all(figure, colours)])


def sum_upon(cords, known, terms, other, many):
    """The terms upon the other ones, however many pairs come of it; known keeps the figures put together."""
    weights = {}
    for figure, weight in terms:
        for far, far_weight in other:
            below, left = put_once(cords, known, figure, far)
            worth = weight * far_weight * times_itself(many, left)
            weights[below] = weights.get(below, 0) + worth
    return sum_of(weights)


def need_sum(cords, terms):
    """The sum itself."""
    need_with_sum(cords, terms)
    return terms


def shown(cords, terms, many, top, bottom):
    """The sum of the weights of the figures that let the pair."""
    need_with_sum(cords, terms)
    need_quantity(many)
    need_colouring(cords, many, top)
    need_colouring(cords, many, bottom)
    return shown_at(terms, top + bottom)


def row_sum(cords, row, many):
    """The figure of the row, weighted by the number of inner ways that its leftovers bring."""
    need_cords(cords)
    need_row(cords, row)
    need_quantity(many)
    figures, leftovers = row_course(cords, row)
    return ((figures[-1], times_itself(many, leftovers[-1])),)


def added(cords, terms, other):
    """Both sums added."""
    need_with_sum(cords, terms)
    need_sum_told(cords, other)
    weights = {figure: weight for figure, weight in terms}
    for figure, weight in other:
        weights[figure] = weights.get(figure, 0) + weight
    both = sum_of(weights)
    need_short(both)
    return both


def upon_sum(cords, terms, other, many):
    """The one sum upon the other one."""
    need_with_sum(cords, terms)
    need_sum_told(cords, other)
    need_quantity(many)
    both = sum_upon(cords, {}, terms, other, many)
    need_short(both)
    return both


def power_sum(cords, terms, number, many):
    """The sum so many times, one upon the other."""
    need_with_sum(cords, terms)
    need_number(number, 0, MOST_TIMES)
    need_quantity(many)
    if number == 0:
        return ((straight_figure(cords), 1),)
    known = {}
    power = terms
    for _ in range(number - 1):
        power = sum_upon(cords, known, power, terms, many)
        need_short(power)
    return power


def figures_shown(cords, terms):
    """The ascending list of all figures at which, as at colourings, the terms show other than 0."""
    return [figure for figure in ways_to_part(2 * cords) if shown_at(terms, figure) != 0]


def is_nothing(cords, terms, many):
    """Whether the sum shows 0 at all pairs of so many colours."""
    need_with_sum(cords, terms)
    need_quantity(many)
    # With a colour for each point only () shows nothing, so no figure need be looked at.
    if terms == () or many >= 2 * cords:
        return terms == ()
    need_fewer_cords(cords)
    return all([max(figure) >= many for figure in figures_shown(cords, terms)])


def fewest_colours(cords, terms):
    """The fewest colours by which the sum shows other than 0 somewhere, None of ()."""
    need_with_sum(cords, terms)
    if terms == ():
        return None
    need_fewer_cords(cords)
    return min([max(figure) + 1 for figure in figures_shown(cords, terms)])


def first_shown(cords, terms, many):
    """The least pair at which the sum shows other than 0, None if there is none."""
    need_with_sum(cords, terms)
    need_quantity(many)
    if terms == ():
        return None
    need_fewer_cords(cords)
    for figure in figures_shown(cords, terms):
        if max(figure) < many:
            return figure[:cords], figure[cords:]
    return None


def letting(cords, family, many, top, bottom):
    """How many figures of the family let the pair."""
    need_cords(cords)
    need_family(family)
    need_quantity(many)
    need_colouring(cords, many, top)
    need_colouring(cords, many, bottom)
    need_few(cords, family)
    return [lets_all(figure, top + bottom) for figure in figures_in(cords, family)].count(True)


def lessened(numbers, row, lead):
    """The numbers, as multiples, less so much of the row that 0 stands at the place lead."""
    rest = [row[lead] * one - numbers[lead] * two for one, two in zip(numbers, row)]
    common = 0
    for one in rest:
        common = gcd(common, one)
    return [one // max(1, common) for one in rest]


def many_independent(rows):
    """How many of the rows of numbers, at the most, are such that no sum of multiples of them is all 0."""
    kept = []
    for row in rows:
        rest = list(row)
        for lead, one in kept:
            if rest[lead] != 0:
                rest = lessened(rest, one, lead)
        leads = [place for place, number in enumerate(rest) if number != 0]
        if leads:
            kept.append((leads[0], rest))
    return len(kept)


def hold(cords, family, many):
    """How many figures of the family, at the most, hold out by so many colours."""
    need_cords(cords)
    need_family(family)
    need_quantity(many)
    need_at_most(cords, family, MOST_HELD)
    need_fewer_cords(cords)
    figures = figures_in(cords, family)
    shown_by_each = sorted({
        tuple([int(lets_all(figure, colours)) for figure in figures])
        for colours in ways_to_part(2 * cords) if max(colours) < many
    })
    return many_independent(shown_by_each)
