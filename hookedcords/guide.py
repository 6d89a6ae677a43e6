"""Guides: they lead a live weave to a goal, by the deeds of a family."""

from hookedcords.checks import need_family, need_figure
from hookedcords.sizes import need_few
from hookedcords.walks import row_to, walk


class Guide:
    """Leads a weave, the very one, to the figure goal."""

    def __init__(self, weave, family, goal):
        need_family(family)
        need_figure(weave.cords, goal)
        need_few(weave.cords, family)
        self.weave = weave
        self.family = family
        self.goal = goal

    def way_left(self):
        """The least of the shortest rows that, put below, bring the goal; None if there is none."""
        # No more figures are reached from one than the family has: so this walk never is too great.
        before = walk(self.weave.cords, self.family, self.weave.figure(), self.goal)[1]
        if self.goal not in before:
            return None
        return row_to(before, self.goal)

    def left(self):
        """How many deeds the way left has, None if there is none."""
        row = self.way_left()
        if row is None:
            return None
        return len(row)

    def is_there(self):
        """Whether the weave has the goal's figure."""
        return self.weave.figure() == self.goal

    def go(self):
        """Puts the first deed of the way left below and returns it; None if there is no such deed."""
        row = self.way_left()
        if row is None or row == ():
            return None
        self.weave.work(row[:1])
        return row[0]
