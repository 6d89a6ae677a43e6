"""The courses that fillings take, step by step, as far as they bear what is seen."""

from hookedcords.errors import TooGreat
from hookedcords.putting import figure_of_deed, put_once, straight_figure
from hookedcords.seeing import lots_in_gapped, shows_at

MOST_STATES = 2000


class Course:
    """What the first deeds of fillings that bear what is seen up to there bring, at each step.

    A state is a pair of a figure and a tuple: the answers to the questions asked up to its step, in the
    order of their steps. layers: a list with the list of the states at each step. steps: a list with a
    dict for each item: for each state ahead of it the list of triples of a deed, the state behind it
    and the number of pieces that it leaves over; the deeds ascend. menu is () if nothing is asked.
    TooGreat if there are too many states at a step.
    """

    def __init__(self, cords, gapped, seen, menu):
        self.cords = cords
        self.layers = []
        self.steps = []
        self._seen = seen
        self._menu = menu
        self._known = {}
        start = straight_figure(cords)
        layer = []
        if shows_at(start, 0, seen):
            layer.append((start, self._answers_at(start, 0)))
        self.layers.append(layer)
        for lot in lots_in_gapped(cords, gapped):
            self._go_on(lot)

    def _answers_at(self, figure, step):
        """The answers of the figure to the questions at the step."""
        return tuple([figure[point] == figure[far] for at, point, far in self._menu if at == step])

    def _looks_at(self, figures, step):
        """A dict with the answers at the step of those of the figures that show what is seen there."""
        seen = [sight for sight in self._seen if sight[0] == step]
        return {figure: self._answers_at(figure, step) for figure in figures if shows_at(figure, step, seen)}

    def _go_on(self, lot):
        """One step further, by the deeds of the lot."""
        shapes = [(deed, figure_of_deed(self.cords, deed)) for deed in lot]
        below = {}
        for figure, _ in self.layers[-1]:
            if figure not in below:
                below[figure] = [(deed,) + put_once(self.cords, self._known, figure, one) for deed, one in shapes]
        figures = {one[1]: True for found in below.values() for one in found}
        looks = self._looks_at(figures, len(self.layers))
        steps = {}
        behind = {}
        for state in self.layers[-1]:
            steps[state] = []
            for deed, figure, left in below[state[0]]:
                if figure in looks:
                    further = (figure, state[1] + looks[figure])
                    steps[state].append((deed, further, left))
                    behind[further] = True
            if len(behind) > MOST_STATES:
                raise TooGreat(MOST_STATES)
        self.steps.append(steps)
        self.layers.append(list(behind))


def ways_on(course):
    """For each step a dict: from each state there in how many ways fillings go on to the end."""
    ways = [{state: 1 for state in course.layers[-1]}]
    for steps in course.steps[::-1]:
        ahead = {}
        for state, found in steps.items():
            ahead[state] = sum([ways[-1][further] for _, further, _ in found])
        ways.append(ahead)
    return ways[::-1]


def living_states(course):
    """For each step the list of the states through which fillings go that bear all that is seen."""
    return [[state for state, many in ahead.items() if many > 0] for ahead in ways_on(course)]


def ways_to_ends(course):
    """A dict: for each pair of a last state and a number of leftovers how many fillings come to it."""
    ways = {(state, 0): 1 for state in course.layers[0]}
    for steps in course.steps:
        behind = {}
        for (state, left), many in ways.items():
            for _, further, more in steps[state]:
                end = (further, left + more)
                behind[end] = behind.get(end, 0) + many
        ways = behind
    return ways


def added_up(pairs):
    """The ascending tuple of pairs of an unlike first thing and the sum of the numbers that stand behind it."""
    sums = {}
    for thing, many in pairs:
        sums[thing] = sums.get(thing, 0) + many
    return tuple(sorted(sums.items()))


def filling_of_number(course, number):
    """Of the fillings that bear what is seen, of which there are more than number, that with so many ahead."""
    ways = ways_on(course)
    row = []
    rest = number
    state = course.layers[0][0]
    for steps, ahead in zip(course.steps, ways[1:]):
        for deed, further, _ in steps[state]:
            if rest < ahead[further]:
                break
            rest = rest - ahead[further]
        row.append(deed)
        state = further
    return tuple(row)


def many_ahead(course, row):
    """How many fillings that bear what is seen are ahead of the row, which is one of them."""
    many = 0
    state = course.layers[0][0]
    for own, steps, ahead in zip(row, course.steps, ways_on(course)[1:]):
        for deed, further, _ in steps[state]:
            if deed == own:
                state = further
                break
            many = many + ahead[further]
    return many
