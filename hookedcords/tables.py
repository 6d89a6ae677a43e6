"""A family's figures by their numbers, what each deed makes of them, and lots of numbers that are joined."""

from hookedcords.putting import put_upon, renumbered
from hookedcords.walks import figures_in, shapes_of


class Table:
    """The figures of a family that isn't too great, ascending.

    numbers: a dict with the number of each figure. sides: a list with a triple for each deed of the
    family, ascending: the deed, the list of the numbers of the deed's figure upon each figure, and
    the list of those of each figure upon the deed's.
    """

    def __init__(self, cords, family):
        self.cords = cords
        self.figures = figures_in(cords, family)
        self.numbers = {figure: number for number, figure in enumerate(self.figures)}
        self.sides = [self._sides_of(deed, shape) for deed, shape in shapes_of(cords, family)]

    def _sides_of(self, deed, shape):
        """The triple of a deed, shape being its figure."""
        above = [self.numbers[put_upon(self.cords, shape, figure)] for figure in self.figures]
        below = [self.numbers[put_upon(self.cords, figure, shape)] for figure in self.figures]
        return deed, above, below


def root_of(parents, number):
    """The number that stands for the lot of the number; the way to it is made shorter."""
    here = number
    while parents[here] != here:
        parents[here] = parents[parents[here]]
        here = parents[here]
    return here


def are_joined_now(parents, number, far_number):
    """Joins the lots of both numbers; whether they were two."""
    near = root_of(parents, number)
    far = root_of(parents, far_number)
    parents[far] = near
    return near != far


def lots_by_roots(parents):
    """For each number that of its lot, lots being numbered in the order of their first numbers."""
    return renumbered([root_of(parents, number) for number in range(len(parents))])


def steps_between(steps, start, end):
    """The tuple of the fewest steps from start to end, None if none lead there.

    steps: a dict with a list for each number: the steps from it, each in a pair with the number it leads to.
    """
    before = {start: None}
    fresh = [start]
    while fresh and end not in before:
        further = []
        for here in fresh:
            for there, step in steps[here]:
                if there not in before:
                    before[there] = (here, step)
                    further.append(there)
        fresh = further
    if end not in before:
        return None
    way = []
    here = end
    while before[here] is not None:
        here, step = before[here]
        way.append(step)
    return tuple(way[::-1])
