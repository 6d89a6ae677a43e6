"""Questions about the fillings of rows with gaps, and plans of questions that settle which figure they have."""

from hookedcords.checks import need_row
from hookedcords.courses import Course, added_up, ways_to_ends
from hookedcords.errors import BadPaper, BadRow
from hookedcords.putting import row_course
from hookedcords.seeing import fills, need_menu_told, need_with_gapped, need_with_seen


class Asking:
    """The best plans, by some of the questions of a menu, for lots of fillings.

    lots: triples of the answers, the figure and how many fillings they are. numbers: those of the
    questions that may be asked; there is a plan of them that settles.
    """

    def __init__(self, lots, numbers):
        self._lots = lots
        self._numbers = numbers
        self._known = {}

    def best(self):
        """The quadruple of the least depth, a plan that has it, the least sum, a plan that has it."""
        return self._best_of(tuple(range(len(self._lots))))

    def _best_of(self, here):
        """The quadruple for the lots with the numbers in here."""
        if here not in self._known:
            self._known[here] = self._worked_out(here)
        return self._known[here]

    def _worked_out(self, here):
        """The quadruple for these lots, by the best first question; one that doesn't part them is no help."""
        if len({self._lots[at][1] for at in here}) <= 1:
            return 0, (), 0, ()
        many = sum([self._lots[at][2] for at in here])
        by_depth = []
        by_sum = []
        for number in self._numbers:
            yes = tuple([at for at in here if self._lots[at][0][number]])
            no = tuple([at for at in here if not self._lots[at][0][number]])
            if yes and no:
                depth, plan, total, far_plan = self._best_of(yes)
                no_depth, no_plan, no_total, far_no_plan = self._best_of(no)
                by_depth.append((1 + max(depth, no_depth), (number, plan, no_plan)))
                by_sum.append((many + total + no_total, (number, far_plan, far_no_plan)))
        return min(by_depth) + min(by_sum)


def can_tell(lots, numbers):
    """Whether lots with unlike figures have unlike answers to some of the questions with these numbers."""
    figures = {}
    for answers, figure, _ in lots:
        told = tuple([answers[number] for number in numbers])
        if figures.setdefault(told, figure) != figure:
            return False
    return True


def best_by(lots, numbers):
    """The quadruple of the best plans by the questions with these numbers, four times None if none settles."""
    if not can_tell(lots, numbers):
        return None, None, None, None
    return Asking(lots, numbers).best()


def need_with_menu(cords, gapped, seen, menu):
    """The errors of a number of cords, a row with gaps, what is seen, and a menu."""
    need_with_seen(cords, gapped, seen)
    need_menu_told(cords, len(gapped), menu)


def lots_seen(cords, gapped, seen, menu):
    """The ascending list of triples of the answers, the figure and how many fillings they are."""
    order = [number for step in range(len(gapped) + 1) for number in range(len(menu)) if menu[number][0] == step]
    pairs = []
    for ((figure, told), _), many in ways_to_ends(Course(cords, gapped, seen, menu)).items():
        answers = tuple([told[order.index(number)] for number in range(len(menu))])
        pairs.append(((answers, figure), many))
    return [thing + (many,) for thing, many in added_up(pairs)]


def numbers_in(menu):
    """The list of the numbers of the questions."""
    return list(range(len(menu)))


def without_each(menu):
    """For each question the list of the numbers of all others."""
    return [[other for other in numbers_in(menu) if other != number] for number in numbers_in(menu)]


def answers_of(cords, gapped, row, menu):
    """For each question the answer of the filling."""
    need_with_gapped(cords, gapped)
    need_row(cords, row)
    if not fills(cords, gapped, row):
        raise BadRow(None)
    need_menu_told(cords, len(gapped), menu)
    figures = row_course(cords, row)[0]
    return tuple([figures[step][point] == figures[step][far_point] for step, point, far_point in menu])


def lots_by(cords, gapped, seen, menu):
    """The ascending tuple of triples of the answers, the figure and how many of the fillings they are."""
    need_with_menu(cords, gapped, seen, menu)
    return tuple(lots_seen(cords, gapped, seen, menu))


def can_settle(cords, gapped, seen, menu):
    """Whether some plan settles."""
    return can_tell(lots_by(cords, gapped, seen, menu), numbers_in(menu))


def best_plans(cords, gapped, seen, menu):
    """The quadruple of the best plans, four times None if none settles."""
    return best_by(lots_by(cords, gapped, seen, menu), numbers_in(menu))


def fewest_questions(cords, gapped, seen, menu):
    """The least depth of a plan that settles, None if none does."""
    return best_plans(cords, gapped, seen, menu)[0]


def best_plan(cords, gapped, seen, menu):
    """A plan of the least depth that settles, None if none does."""
    return best_plans(cords, gapped, seen, menu)[1]


def least_sum(cords, gapped, seen, menu):
    """The least sum of a plan that settles, None if none does."""
    return best_plans(cords, gapped, seen, menu)[2]


def sum_plan(cords, gapped, seen, menu):
    """A plan with the least sum that settles, None if none does."""
    return best_plans(cords, gapped, seen, menu)[3]


def is_plan(numbers, value):
    """Whether value, of any kind, is a plan by the questions with these numbers, each once on a way."""
    if type(value) is not tuple or len(value) not in (0, 3):
        return False
    if value == ():
        return True
    number, if_one, if_not = value
    if type(number) is not int or number not in numbers:
        return False
    others = [one for one in numbers if one != number]
    return is_plan(others, if_one) and is_plan(others, if_not)


def need_plan_told(menu, plan):
    """BadPaper of what is no plan by the menu."""
    if not is_plan(numbers_in(menu), plan):
        raise BadPaper("plan")


def need_plan(cords, gapped, menu, plan):
    """The plan itself."""
    need_with_gapped(cords, gapped)
    need_menu_told(cords, len(gapped), menu)
    need_plan_told(menu, plan)
    return plan


def depth_of(plan):
    """The most questions on a way from the whole plan down."""
    if plan == ():
        return 0
    return 1 + max(depth_of(plan[1]), depth_of(plan[2]))


def way_down(plan, answers):
    """The tuple of the pairs of a question asked and the answer, on the way that the answers lead."""
    way = []
    here = plan
    while here != ():
        number, if_one, if_not = here
        way.append((number, answers[number]))
        here = if_one if answers[number] else if_not
    return tuple(way)


def plan_depth(cords, gapped, menu, plan):
    """The most questions on a way from the whole plan down."""
    return depth_of(need_plan(cords, gapped, menu, plan))


def ways_down(cords, gapped, seen, menu, plan):
    """For each of the lots by the menu a triple: its way down the plan, its figure, and how many it has."""
    need_with_menu(cords, gapped, seen, menu)
    need_plan_told(menu, plan)
    lots = lots_seen(cords, gapped, seen, menu)
    return [(way_down(plan, answers), figure, many) for answers, figure, many in lots]


def plan_sum(cords, gapped, seen, menu, plan):
    """How many questions the plan asks of all fillings that bear what is seen, together."""
    return sum([len(way) * many for way, _, many in ways_down(cords, gapped, seen, menu, plan)])


def does_settle(cords, gapped, seen, menu, plan):
    """Whether at each end of the plan all fillings that come there have one figure."""
    figures = {}
    for way, figure, _ in ways_down(cords, gapped, seen, menu, plan):
        if figures.setdefault(way, figure) != figure:
            return False
    return True


def needed_questions(cords, gapped, seen, menu):
    """The ascending tuple of the numbers of the questions without which no plan settles, though some plan does."""
    lots = lots_by(cords, gapped, seen, menu)
    if not can_tell(lots, numbers_in(menu)):
        return ()
    return tuple([number for number, others in enumerate(without_each(menu)) if not can_tell(lots, others)])


def idle_questions(cords, gapped, seen, menu):
    """The ascending tuple of the numbers of the questions without which the best plans are as good."""
    lots = lots_by(cords, gapped, seen, menu)
    depth, _, total, _ = best_by(lots, numbers_in(menu))
    idle = []
    for number, others in enumerate(without_each(menu)):
        far_depth, _, far_total, _ = best_by(lots, others)
        if (far_depth, far_total) == (depth, total):
            idle.append(number)
    return tuple(idle)
