"""Colourings: which pairs of them figures let, and the inner ways of rows between them."""

from hookedcords.checks import (
    is_colouring, need_colouring, need_cords, need_figure, need_number, need_quantity, need_row,
)
from hookedcords.errors import BadColours
from hookedcords.putting import figure_of_deed, points_by_piece, row_course, straight_figure
from hookedcords.tables import are_joined_now, lots_by_roots


def need_figure_and_quantity(cords, figure, many):
    """The errors of a number of cords, a figure and a quantity of colours."""
    need_cords(cords)
    need_figure(cords, figure)
    need_quantity(many)


def need_figure_and_pair(cords, figure, many, top, bottom):
    """The errors of a number of cords, a figure, a quantity of colours and a pair of colourings."""
    need_figure_and_quantity(cords, figure, many)
    need_colouring(cords, many, top)
    need_colouring(cords, many, bottom)


def need_row_and_pair(cords, row, many, top, bottom):
    """The errors of a number of cords, a row, a quantity of colours and a pair of colourings."""
    need_cords(cords)
    need_row(cords, row)
    need_quantity(many)
    need_colouring(cords, many, top)
    need_colouring(cords, many, bottom)


def times_itself(many, times):
    """Many to the power of times."""
    product = 1
    for _ in range(times):
        product = product * many
    return product


def lets_all(pieces, colours):
    """Whether what has the number of one piece has one colour."""
    return len(set(list(zip(pieces, colours)))) == max(pieces) + 1


def number_of_digits(many, digits):
    """The number that has these digits, the greatest one first."""
    number = 0
    for digit in digits:
        number = number * many + digit
    return number


def digits_of_number(many, length, number):
    """So many digits of a number, the greatest one first."""
    digits = [0] * length
    rest = number
    for at in range(length):
        rest, digits[length - 1 - at] = divmod(rest, many)
    return digits


def lets(cords, figure, many, top, bottom):
    """Whether all points of each piece have one colour."""
    need_figure_and_pair(cords, figure, many, top, bottom)
    return lets_all(figure, top + bottom)


def lets_just_so(cords, figure, many, top, bottom):
    """Whether points have one colour exactly if they are of one piece."""
    return lets(cords, figure, many, top, bottom) and len(set(top + bottom)) == max(figure) + 1


def pairs_let(cords, figure, many):
    """How many pairs the figure lets."""
    need_figure_and_quantity(cords, figure, many)
    return times_itself(many, max(figure) + 1)


def pairs_just_so(cords, figure, many):
    """How many pairs the figure lets just so."""
    need_figure_and_quantity(cords, figure, many)
    pairs = 1
    for piece in range(max(figure) + 1):
        pairs = pairs * max(0, many - piece)
    return pairs


def bottoms_for(cords, figure, many, top):
    """With how many bottom colourings the figure lets the top one."""
    need_figure_and_quantity(cords, figure, many)
    need_colouring(cords, many, top)
    tops = figure[:cords]
    if not lets_all(tops, top):
        return 0
    return times_itself(many, max(figure) - max(tops))


def least_bottom(cords, figure, many, top):
    """The least bottom colouring with which the figure lets the top one, None if there is none."""
    need_figure_and_quantity(cords, figure, many)
    need_colouring(cords, many, top)
    tops = figure[:cords]
    if not lets_all(tops, top):
        return None
    known = dict(zip(tops, top))
    return tuple([known.get(piece, 0) for piece in figure[cords:]])


def pair_numbered(cords, figure, many, number):
    """The pair of colourings, of those that the figure lets, with this number."""
    pairs = pairs_let(cords, figure, many)
    need_number(number, 0, pairs - 1)
    digits = digits_of_number(many, max(figure) + 1, number)
    colours = tuple([digits[piece] for piece in figure])
    return colours[:cords], colours[cords:]


def number_of_pair(cords, figure, many, top, bottom):
    """How many lesser pairs the figure lets than this one, which it lets, too."""
    if not lets(cords, figure, many, top, bottom):
        raise BadColours("let")
    colours = top + bottom
    return number_of_digits(many, [colours[points[0]] for points in points_by_piece(figure)])


def shapes_in(cords, row):
    """The figures between whose points a row's colourings stand; the row () is as good as one that is straight."""
    if row == ():
        return [straight_figure(cords)]
    return [figure_of_deed(cords, deed) for deed in row]


def lots_in(cords, shapes):
    """For each point the number of the piece that it is in when the figures stand one below the other.

    The points are the top ones of all figures, from the top down, and the bottom ones of the last one.
    Pieces are numbered in the order of their first points.
    """
    parents = list(range(cords * (len(shapes) + 1)))
    for level, shape in enumerate(shapes):
        for points in points_by_piece(shape):
            for point in points:
                are_joined_now(parents, level * cords + points[0], level * cords + point)
    return lots_by_roots(parents)


def inner_lots(cords, lots):
    """The ascending list of the pieces left over: those of points between alone."""
    outer = lots[:cords] + lots[-cords:]
    return [lot for lot in range(max(lots) + 1) if lot not in outer]


def ways_between(cords, row, many, top, bottom):
    """How many inner ways the row has between both colourings."""
    figures, leftovers = row_course(cords, row)
    if not lets_all(figures[-1], top + bottom):
        return 0
    return times_itself(many, leftovers[-1])


def ways(cords, row, many, top, bottom):
    """How many inner ways the row has between both colourings."""
    need_row_and_pair(cords, row, many, top, bottom)
    return ways_between(cords, row, many, top, bottom)


def inner_way(cords, row, many, top, bottom, number):
    """The inner way of the row with this number."""
    need_row_and_pair(cords, row, many, top, bottom)
    need_number(number, 0, ways_between(cords, row, many, top, bottom) - 1)
    shapes = shapes_in(cords, row)
    lots = lots_in(cords, shapes)
    known = dict(zip(lots[:cords] + lots[-cords:], top + bottom))
    free = inner_lots(cords, lots)
    for lot, colour in zip(free, digits_of_number(many, len(free), number)):
        known[lot] = colour
    colours = [known[lot] for lot in lots]
    return tuple([tuple(colours[level * cords:(level + 1) * cords]) for level in range(1, len(shapes))])


def are_colourings(cords, many, length, value):
    """Whether value, of any kind, is a tuple of so many colourings."""
    if type(value) is not tuple or len(value) != length:
        return False
    return all([is_colouring(cords, many, colours) for colours in value])


def number_of_way(cords, row, many, top, bottom, way):
    """How many lesser inner ways the row has between both colourings than this one."""
    need_row_and_pair(cords, row, many, top, bottom)
    shapes = shapes_in(cords, row)
    if not are_colourings(cords, many, len(shapes) - 1, way):
        raise BadColours("way")
    lots = lots_in(cords, shapes)
    colours = [colour for level in (top,) + way + (bottom,) for colour in level]
    if not lets_all(lots, colours):
        raise BadColours("way")
    known = dict(zip(lots, colours))
    return number_of_digits(many, [known[lot] for lot in inner_lots(cords, lots)])


def pairs_of_two_colours(cords):
    """All pairs with the colours 0 and 1 alone, ascending, each as one tuple."""
    found = [()]
    for _ in range(2 * cords):
        found = [one + (colour,) for one in found for colour in (0, 1)]
    return found


def first_apart(cords, row, far_row, many):
    """The least pair between which both rows have unlike numbers of inner ways, None if there is none."""
    need_cords(cords)
    need_row(cords, row)
    need_row(cords, far_row)
    need_quantity(many)
    if many == 1:
        return None
    figures, leftovers = row_course(cords, row)
    far_figures, far_leftovers = row_course(cords, far_row)
    for colours in pairs_of_two_colours(cords):
        # All figures let the first of these, that of zeros.
        let = lets_all(figures[-1], colours)
        if let != lets_all(far_figures[-1], colours) or (let and leftovers[-1] != far_leftovers[-1]):
            return colours[:cords], colours[cords:]
    return None
