"""Rows that leave just so many pieces over."""

from hookedcords.checks import need_family_figure, need_number
from hookedcords.faults import need_of_family
from hookedcords.putting import put_together, put_upon, straight_figure
from hookedcords.sizes import need_few
from hookedcords.walks import figures_in, row_to, shapes_of

MOST_LEFT = 12


def need_few_with(cords, family, figure):
    """BadFigure("family"), and behind it TooGreat."""
    need_of_family(cords, family, figure)
    need_few(cords, family)


def steps_below(cords, shapes, figure):
    """For each deed, ascending: the deed, what it brings below the figure, and what it leaves over."""
    steps = []
    for deed, shape in shapes:
        below, left = put_together(cords, figure, shape)
        steps.append((deed, below, left))
    return steps


def leaving_walk(cords, family):
    """A dict: for each pair of a figure and a number of pieces left over, the last step of its least row.

    No more than 12 pieces are looked at. Each step stands in a list of its own, as a pair of the
    pair ahead and the deed; the list of the pair from which the walk starts is empty.
    """
    shapes = shapes_of(cords, family)
    start = (straight_figure(cords), 0)
    before = {start: []}
    table = {}
    layer = [start]
    while layer:
        further = []
        for here in layer:
            figure, left = here
            if figure not in table:
                table[figure] = steps_below(cords, shapes, figure)
            for deed, below, more in table[figure]:
                there = (below, left + more)
                if left + more <= MOST_LEFT and there not in before:
                    before[there] = [(here, deed)]
                    further.append(there)
        layer = further
    return before


def row_leaving(cords, family, figure, number):
    """The least of the shortest rows of the figure that leave just so many pieces, None if there is none."""
    need_family_figure(cords, family, figure)
    need_number(number, 0, MOST_LEFT)
    need_few_with(cords, family, figure)
    before = leaving_walk(cords, family)
    if (figure, number) not in before:
        return None
    return row_to(before, (figure, number))


def fewest_leaving(cords, family, figure, number):
    """The fewest deeds of a row of the figure that leaves just so many pieces, None if there is none."""
    row = row_leaving(cords, family, figure, number)
    if row is None:
        return None
    return len(row)


def leaving_lengths(cords, family, figure):
    """The fewest deeds of rows of the figure that leave 0, 1, .., 12 pieces, each None if there is none."""
    need_family_figure(cords, family, figure)
    need_few_with(cords, family, figure)
    before = leaving_walk(cords, family)
    lengths = []
    for number in range(MOST_LEFT + 1):
        if (figure, number) in before:
            lengths.append(len(row_to(before, (figure, number))))
        else:
            lengths.append(None)
    return tuple(lengths)


def can_leave(cords, family, figure):
    """Whether some row of the figure has a cut or a hook."""
    need_family_figure(cords, family, figure)
    need_few_with(cords, family, figure)
    shapes = shapes_of(cords, family)
    loose = shapes_of(cords, [word for word in family if word in ("cut", "hook")])
    fresh = [put_upon(cords, one, shape) for one in figures_in(cords, family) for _, shape in loose]
    known = set()
    while fresh:
        one = fresh.pop()
        if one not in known:
            known.add(one)
            fresh.extend([put_upon(cords, one, shape) for _, shape in shapes])
    return figure in known
