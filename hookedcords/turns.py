"""Turns: figures that come of one another when what is above is put below, and the lots that they make."""

from hookedcords.checks import is_deed
from hookedcords.errors import BadPaper
from hookedcords.factors import is_led_down, is_led_up
from hookedcords.faults import is_own_figure, need_with_own_figures
from hookedcords.numbered import figures_of
from hookedcords.powers import exchange_in
from hookedcords.putting import figure_of_deed, points_by_piece, put_upon
from hookedcords.sizes import need_at_most, need_few
from hookedcords.tables import Table, are_joined_now, lots_by_roots, steps_between

MOST_FOR_HALVES = 400


def turn_halves(cords, family, figure, other):
    """The least pair (X, Y) with X upon Y as figure and Y upon X as other, None if there is none."""
    need_with_own_figures(cords, family, figure, other)
    need_few(cords, family)
    need_at_most(cords, family, MOST_FOR_HALVES)
    figures = figures_of(cords, family)
    for one in figures:
        if is_led_down(cords, one, figure) and is_led_up(cords, one, other):
            for two in figures:
                if put_upon(cords, one, two) == figure and put_upon(cords, two, one) == other:
                    return one, two
    return None


def is_turn(cords, family, figure, other):
    """Whether other is a turn of figure."""
    return turn_halves(cords, family, figure, other) is not None


def lots_of_turns(table):
    """For each figure of the table the number of its lot of turns."""
    parents = list(range(len(table.figures)))
    for _, above, below in table.sides:
        for near, far in zip(above, below):
            are_joined_now(parents, near, far)
    return lots_by_roots(parents)


def turn_lots(cords, family):
    """The ascending tuple of the lots of turns, each an ascending tuple."""
    figures = figures_of(cords, family)
    lots = points_by_piece(lots_of_turns(Table(cords, family)))
    return tuple([tuple([figures[number] for number in lot]) for lot in lots])


def are_of_one_lot(cords, family, figure, other):
    """Whether both figures are of one lot of turns."""
    need_with_own_figures(cords, family, figure, other)
    need_few(cords, family)
    table = Table(cords, family)
    lots = lots_of_turns(table)
    return lots[table.numbers[figure]] == lots[table.numbers[other]]


def round_lengths(exchange):
    """The lengths of the rounds of an exchange, the lesser ones first."""
    lengths = []
    seen = set()
    for start in range(len(exchange)):
        length = 0
        here = start
        while here not in seen:
            seen.add(here)
            here = exchange[here]
            length = length + 1
        if length > 0:
            lengths.append(length)
    return tuple(sorted(lengths))


def lot_rounds(cords, family):
    """For each lot of turns the lengths of the rounds of the exchange within its figures, the lesser ones first."""
    return tuple([round_lengths(exchange_in(cords, lot[0])) for lot in turn_lots(cords, family)])


def steps_from(table):
    """A dict: for each number of a figure a list of steps from it, each in a pair with the number it leads to."""
    steps = {number: [] for number in range(len(table.figures))}
    for deed, above, below in table.sides:
        for number, figure in enumerate(table.figures):
            steps[above[number]].append((below[number], (deed, figure, False)))
            steps[below[number]].append((above[number], (deed, figure, True)))
    return steps


def turn_paper(cords, family, figure, other):
    """A paper that shows whether other is of the lot of figure."""
    need_with_own_figures(cords, family, figure, other)
    need_few(cords, family)
    table = Table(cords, family)
    steps = steps_between(steps_from(table), table.numbers[figure], table.numbers[other])
    if steps is not None:
        return "steps", steps
    lots = lots_of_turns(table)
    lot = lots[table.numbers[figure]]
    return "closed", tuple([one for one, number in zip(table.figures, lots) if number == lot])


def is_step(cords, family, value):
    """Whether value, of any kind, is a triple of a deed and a figure of the family and a truth."""
    if type(value) is not tuple or len(value) != 3:
        return False
    deed, figure, is_back = value
    if not is_deed(cords, deed) or deed[0] not in family:
        return False
    return is_own_figure(cords, family, figure) and type(is_back) is bool


def do_steps_lead(cords, family, figure, other, steps):
    """Whether value, of any kind, is a tuple of steps that lead from figure to other."""
    if type(steps) is not tuple:
        return False
    here = figure
    for step in steps:
        if not is_step(cords, family, step):
            return False
        deed, one, is_back = step
        shape = figure_of_deed(cords, deed)
        start, end = put_upon(cords, shape, one), put_upon(cords, one, shape)
        if is_back:
            start, end = end, start
        if here != start:
            return False
        here = end
    return here == other


def is_closed_lot(cords, family, figure, other, told):
    """Whether told, of any kind, is a tuple of unlike figures, figure among them, other not, that no turn leaves."""
    if type(told) is not tuple:
        return False
    seen = set()
    for one in told:
        if not is_own_figure(cords, family, one) or one in seen:
            return False
        seen.add(one)
    if figure not in seen or other in seen:
        return False
    table = Table(cords, family)
    for _, above, below in table.sides:
        for near, far in zip(above, below):
            if (table.figures[near] in seen) != (table.figures[far] in seen):
                return False
    return True


def check_turn_paper(cords, family, figure, other, paper):
    """Whether the paper shows that other is of the lot of figure (True) or that it isn't (False)."""
    need_with_own_figures(cords, family, figure, other)
    need_few(cords, family)
    if type(paper) is not tuple or len(paper) != 2 or type(paper[0]) is not str:
        raise BadPaper("form")
    if paper[0] not in ("steps", "closed"):
        raise BadPaper("form")
    if paper[0] == "steps":
        if not do_steps_lead(cords, family, figure, other, paper[1]):
            raise BadPaper("steps")
        return True
    if not is_closed_lot(cords, family, figure, other, paper[1]):
        raise BadPaper("closed")
    return False
