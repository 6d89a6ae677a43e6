"""Halves of figures: how top or bottom points are parted, which pieces are open, and halves put on one another."""

from math import factorial

from hookedcords.checks import is_between, need_cords, need_figure, need_number, wrong_point
from hookedcords.errors import BadFigure, BadNumber
from hookedcords.putting import joined_labels, renumbered, through_pieces


def are_open_pieces(pieces, value):
    """Whether value, of any kind, is an ascending tuple of numbers of these pieces."""
    if type(value) is not tuple:
        return False
    least = 0
    for piece in value:
        if not is_between(piece, least, max(pieces)):
            return False
        least = piece + 1
    return True


def need_half_told(cords, half):
    """BadFigure of what is no half."""
    if type(half) is not tuple or len(half) != 2:
        raise BadFigure("half")
    pieces, open_pieces = half
    if type(pieces) is not tuple or len(pieces) != cords or wrong_point(pieces) is not None:
        raise BadFigure("pieces")
    if not are_open_pieces(pieces, open_pieces):
        raise BadFigure("open")


def need_half(cords, half):
    """The half itself."""
    need_cords(cords)
    need_half_told(cords, half)
    return half


def upper_half(cords, figure):
    """The upper half of the figure."""
    need_cords(cords)
    need_figure(cords, figure)
    return figure[:cords], tuple(through_pieces(cords, figure))


def lower_half(cords, figure):
    """The lower half of the figure."""
    need_cords(cords)
    need_figure(cords, figure)
    bottoms = figure[cords:]
    firsts = [bottoms.index(piece) for piece in through_pieces(cords, figure)]
    pieces = renumbered(bottoms)
    return pieces, tuple(sorted([pieces[place] for place in firsts]))


def meeting_of(cords, figure):
    """For each open piece of the upper half which open piece of the lower half, counted, is of its through piece."""
    pieces, open_pieces = lower_half(cords, figure)
    bottoms = figure[cords:]
    return tuple([open_pieces.index(pieces[bottoms.index(piece)]) for piece in through_pieces(cords, figure)])


def is_meeting(many, value):
    """Whether value, of any kind, is a tuple of just so many numbers from 0 on, each once."""
    if type(value) is not tuple or len(value) != many:
        return False
    return all([is_between(number, 0, many - 1) for number in value]) and len(set(value)) == many


def figure_of_halves(cords, half, meeting, far_half):
    """The figure with half above and far_half below, which meet as told."""
    need_cords(cords)
    need_half_told(cords, half)
    pieces, open_pieces = half
    if not is_meeting(len(open_pieces), meeting):
        raise BadNumber(meeting)
    need_half_told(cords, far_half)
    far_pieces, far_open = far_half
    if len(far_open) != len(open_pieces):
        raise BadFigure("rank")
    met = {far_open[number]: piece for number, piece in zip(meeting, open_pieces)}
    # Lower pieces get numbers that no piece of the half above has.
    bottoms = [met.get(piece, cords + piece) for piece in far_pieces]
    return renumbered(list(pieces) + bottoms)


def counted_in(half, places):
    """The ascending tuple of the open pieces of the half, counted, that have one of these places."""
    pieces, open_pieces = half
    there = [pieces[place] for place in places]
    return tuple([number for number, piece in enumerate(open_pieces) if piece in there])


def hung(cords, half, far_half):
    """The pair of the tuple of chains and the number of rings when half is put on far_half."""
    need_cords(cords)
    need_half_told(cords, half)
    need_half_told(cords, far_half)
    lots = joined_labels(half[0], far_half[0])
    chains = []
    many_rings = 0
    for lot in range(max(lots) + 1):
        places = [place for place in range(cords) if lots[place] == lot]
        chain = (counted_in(half, places), counted_in(far_half, places))
        if chain == ((), ()):
            many_rings = many_rings + 1
        else:
            chains.append(chain)
    return tuple(chains), many_rings


def half_mirrored(cords, half):
    """The half in which the place P is CORDS - 1 - P."""
    need_cords(cords)
    need_half_told(cords, half)
    pieces, open_pieces = half
    turned = renumbered(pieces[::-1])
    return turned, tuple(sorted({turned[cords - 1 - pieces.index(piece)] for piece in open_pieces}))


def ways_to_part(many):
    """All tuples that number the pieces of so many places in the order of their first places, ascending."""
    found = [()]
    for _ in range(many):
        found = [one + (piece,) for one in found for piece in range(len(set(one)) + 1)]
    return found


def choices(many, number):
    """The ascending tuples of so many of the numbers from 0 to below many, as tuples ascend."""
    found = [()]
    for _ in range(number):
        found = [one + (piece,) for one in found for piece in range(many) if one == () or piece > one[-1]]
    return found


def all_halves(cords, number):
    """The ascending tuple of all halves with so many open pieces."""
    need_cords(cords)
    need_number(number, 0, cords)
    return tuple([
        (pieces, open_pieces)
        for pieces in ways_to_part(cords) for open_pieces in choices(max(pieces) + 1, number)
    ])


def half_count(cords, number):
    """How many halves with so many open pieces there are."""
    return len(all_halves(cords, number))


def figures_by_rank(cords):
    """How many figures there are of each rank from 0 to CORDS."""
    need_cords(cords)
    counts = [half_count(cords, rank) for rank in range(cords + 1)]
    return tuple([many * many * factorial(rank) for rank, many in enumerate(counts)])
