"""Live weaves: rows that are done step by step, taken back and done again, marked and tried."""

from hookedcords.checks import MOST_DEEDS, need_cords, need_from, need_number, need_row
from hookedcords.errors import BadName, NothingBack, TooGreat
from hookedcords.putting import figure_of_row, row_course
from hookedcords.wording import is_name


class Trial:
    """For one with statement: behind its block the weave is what it was when the block began."""

    def __init__(self, weave):
        self._weave = weave
        self._row = ()
        self._past = []
        self._future = []
        self._marks = {}

    def __enter__(self):
        """The weave itself; what it is now is kept."""
        weave = self._weave
        self._row = weave._row
        self._past = list(weave._past)
        self._future = list(weave._future)
        self._marks = dict(weave._marks)
        return weave

    def __exit__(self, kind, value, trace):
        """The weave becomes again what was kept; an error goes on."""
        weave = self._weave
        weave._row = self._row
        weave._past = self._past
        weave._future = self._future
        weave._marks = self._marks


class Weave:
    """Cords with a row of deeds that are done."""

    def __init__(self, cords):
        need_cords(cords)
        self.cords = cords
        self._row = ()
        # The rows ahead of the steps done, the last one last, and those behind the steps taken back.
        self._past = []
        self._future = []
        self._marks = {}

    @property
    def row(self):
        """The row of the deeds that are done."""
        return self._row

    @property
    def marks(self):
        """The ascending tuple of pairs of a mark's name and its row."""
        return tuple(sorted(self._marks.items()))

    def _step_to(self, row):
        """One step, which brings the row; TooGreat of one with too many deeds."""
        if len(row) > MOST_DEEDS:
            raise TooGreat(MOST_DEEDS)
        self._past.append(self._row)
        self._future = []
        self._row = row

    def work(self, row):
        """Puts the row below."""
        need_row(self.cords, row)
        self._step_to(self._row + row)

    def work_above(self, row):
        """Puts the row above."""
        need_row(self.cords, row)
        self._step_to(row + self._row)

    def turn_over(self):
        """Turns all over."""
        self._step_to(self._row[::-1])

    def undo(self, *, many=1):
        """Takes so many steps back."""
        need_from(many, 1)
        if many > len(self._past):
            raise NothingBack()
        for _ in range(many):
            self._future.append(self._row)
            self._row = self._past.pop()

    def again(self, *, many=1):
        """Does so many steps again that were taken back."""
        need_from(many, 1)
        if many > len(self._future):
            raise NothingBack()
        for _ in range(many):
            self._past.append(self._row)
            self._row = self._future.pop()

    def mark(self, name):
        """Sets a mark, in the place of one with this name."""
        if not is_name(name):
            raise BadName(name)
        self._marks[name] = self._row

    def is_alike(self, name):
        """Whether the row and that of the mark have the same figure."""
        if not is_name(name) or name not in self._marks:
            raise BadName(name)
        return figure_of_row(self.cords, self._marks[name]) == self.figure()

    def figure(self):
        """The figure of the row."""
        return figure_of_row(self.cords, self._row)

    def leftovers(self):
        """The leftovers of the row."""
        return row_course(self.cords, self._row)[1][-1]

    def hang_together(self, point, far_point):
        """Whether both points hang together by the figure."""
        need_number(point, 0, 2 * self.cords - 1)
        need_number(far_point, 0, 2 * self.cords - 1)
        figure = self.figure()
        return figure[point] == figure[far_point]

    def copy(self):
        """A weave that stands likewise and goes on by itself."""
        twin = Weave(self.cords)
        twin._row = self._row
        twin._past = list(self._past)
        twin._future = list(self._future)
        twin._marks = dict(self._marks)
        return twin

    def trial(self):
        """An object for one with statement, behind whose block the weave is what it was when the block began."""
        return Trial(self)

    def __len__(self):
        """How many deeds are done."""
        return len(self._row)

    def __eq__(self, other):
        """Whether both are weaves with the same cords and row."""
        return isinstance(other, Weave) and self.cords == other.cords and self._row == other._row


def under(manager, deed):
    """What deed returns of the one that the manager of a with statement gives."""
    with manager as one:
        return deed(one)
