"""The figures of a family sorted by what they lead to: top and bottom lots, cells, boxes."""

from hookedcords.factors import base, crown
from hookedcords.faults import need_with_own_figure
from hookedcords.numbered import figures_of
from hookedcords.powers import power_that_stays
from hookedcords.putting import put_upon


def ends_in(cords, family):
    """A dict: for each figure of the family, ascending, the pair of its crown and its base."""
    return {figure: (crown(cords, figure), base(cords, figure)) for figure in figures_of(cords, family)}


def leaders_in(ends):
    """A dict: for each crown the least crown of its box.

    A box has a cell for any two of its crowns, so a crown meets all crowns of its box as bases of figures.
    """
    leaders = {}
    for top, bottom in ends.values():
        leaders[top] = min(bottom, leaders.get(top, bottom))
    return leaders


def boxes_by_leaders(ends, leaders):
    """A dict: for each leader the ascending list of the figures of its box; the boxes by their least figures."""
    found = {}
    for figure, (top, _) in ends.items():
        found.setdefault(leaders[top], []).append(figure)
    return found


def crowns_among(ends, figures):
    """The list of those figures that are their own crown."""
    return [figure for figure in figures if ends[figure][0] == figure]


def top_lot(cords, family, figure):
    """The ascending tuple of the figures of the family with the crown of the figure."""
    need_with_own_figure(cords, family, figure)
    top = crown(cords, figure)
    return tuple([one for one in figures_of(cords, family) if crown(cords, one) == top])


def bottom_lot(cords, family, figure):
    """The ascending tuple of the figures of the family with the base of the figure."""
    need_with_own_figure(cords, family, figure)
    bottom = base(cords, figure)
    return tuple([one for one in figures_of(cords, family) if base(cords, one) == bottom])


def cell_of(cords, family, figure):
    """The ascending tuple of the figures that the top lot and the bottom lot of the figure have together."""
    lot = top_lot(cords, family, figure)
    bottom = base(cords, figure)
    return tuple([one for one in lot if base(cords, one) == bottom])


def box_of(cords, family, figure):
    """The ascending tuple of the figures to which the figure leads on and which lead on to it."""
    need_with_own_figure(cords, family, figure)
    ends = ends_in(cords, family)
    leaders = leaders_in(ends)
    return tuple(boxes_by_leaders(ends, leaders)[leaders[ends[figure][0]]])


def crowns_of(cords, family):
    """The ascending tuple of the figures of the family that are their own crown."""
    return tuple([figure for figure in figures_of(cords, family) if crown(cords, figure) == figure])


def boxes(cords, family):
    """For each box, ascending, its least figure, how many crowns it has, how many figures each of its cells has."""
    ends = ends_in(cords, family)
    told = []
    for figures in boxes_by_leaders(ends, leaders_in(ends)).values():
        many = len(crowns_among(ends, figures))
        told.append((figures[0], many, len(figures) // (many * many)))
    return tuple(told)


def numbers_below(cords, crowns_by_box):
    """For each box the list of the numbers of all boxes below it, boxes being told by lists of their crowns."""
    below = []
    for crowns in crowns_by_box:
        # From a crown all boxes below are come to by just the crowns that stay when put below it.
        first = crowns[0]
        under = []
        for number, others in enumerate(crowns_by_box):
            if others != crowns and any([put_upon(cords, first, one) == one for one in others]):
                under.append(number)
        below.append(under)
    return below


def boxes_below(cords, family):
    """For each box, in their order, the ascending tuple of the numbers of those next below it."""
    ends = ends_in(cords, family)
    groups = boxes_by_leaders(ends, leaders_in(ends))
    below = numbers_below(cords, [crowns_among(ends, figures) for figures in groups.values()])
    told = []
    for under in below:
        told.append(tuple([number for number in under if not any([number in below[third] for third in under])]))
    return tuple(told)


def has_ends(cords, figure, top, bottom):
    """Whether the figure has this crown and this base."""
    return crown(cords, figure) == top and base(cords, figure) == bottom


def box_table(cords, family, figure):
    """The box of the figure: its crowns, and for each as a crown and each as a base whether their cell is turning."""
    need_with_own_figure(cords, family, figure)
    ends = ends_in(cords, family)
    leaders = leaders_in(ends)
    crowns = crowns_among(ends, boxes_by_leaders(ends, leaders)[leaders[ends[figure][0]]])
    rows = []
    for top in crowns:
        rows.append(tuple([has_ends(cords, put_upon(cords, bottom, top), bottom, top) for bottom in crowns]))
    return tuple(crowns), tuple(rows)


def turns_in_cell(cords, figure):
    """Whether the cell of the figure is turning, in each family that has the figure."""
    return has_ends(cords, put_upon(cords, figure, figure), crown(cords, figure), base(cords, figure))


def is_turning(cords, family, figure):
    """Whether the cell of the figure is turning."""
    need_with_own_figure(cords, family, figure)
    return turns_in_cell(cords, figure)


def still_of(cords, family, figure):
    """The figure of the cell that stays when put upon itself, None if there is none.

    In a turning cell all powers of the figure stay within, so the one of them that stays is it.
    """
    need_with_own_figure(cords, family, figure)
    if not turns_in_cell(cords, figure):
        return None
    return power_that_stays(cords, figure)[1]
