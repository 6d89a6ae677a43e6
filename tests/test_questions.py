"""Questions about rows with gaps: [58], [59], by going through all fillings and all plans of small menus."""

import itertools
import random
import unittest

from hookedcords.errors import BadBook, BadPaper, BadRow, BadSeen, TooGreat
from hookedcords.figures import upon
from hookedcords.questions import (
    answers_of, best_plan, can_settle, does_settle, fewest_questions, idle_questions, least_sum, lots_by, need_plan,
    needed_questions, plan_depth, plan_sum, sum_plan,
)
from hookedcords.rows import deed_figure
from tests import brute
from tests.brute import told_of

HOOK, SWAP, CUT, JOIN = ("hook", 0), ("swap", 0), ("cut", 0), ("join", 0)


def drawn_menu(source, cords, gapped, most):
    questions = brute.all_questions(cords, gapped)
    # Questions at the end tell most; those at other steps may be idle.
    late = [question for question in questions if question[0] == len(gapped)]
    menu = []
    for _ in range(source.randint(1, most)):
        question = source.choice(late if source.random() < 0.8 else questions)
        if question not in menu:
            menu.append(question)
    return tuple(menu)


def drawn_cases(many, seed, most=3):
    """Quadruples of a number of cords, a row with few gaps, what is seen, and a menu."""
    source = random.Random(seed)
    for _ in range(many):
        cords = source.choice((1, 2, 2, 3))
        deeds = brute.deeds_of(cords)
        lots = [source.sample(deeds, min(len(deeds), source.choice((1, 2, 2, 3)))) for _ in range(source.randint(0, 4))]
        gapped = tuple(tuple(sorted(lot)) if source.random() < 0.95 else None for lot in lots)
        seen = brute.drawn_seen(source, cords, gapped, 2) if source.random() < 0.4 else ()
        yield cords, gapped, seen, drawn_menu(source, cords, gapped, most)


def answers_by_hand(cords, row, menu):
    course = brute.figures_on_way(cords, row)
    return tuple(course[step][point] == course[step][far] for step, point, far in menu)


def told_by_hand(cords, gapped, seen, menu):
    """For each filling that bears what is seen its answers and its figure."""
    return [
        (answers_by_hand(cords, row, menu), brute.row_told(cords, row)[0]) for row in brute.bearing(cords, gapped, seen)
    ]


def all_plans(numbers):
    found = [()]
    for number in numbers:
        behind = all_plans([other for other in numbers if other != number])
        found += [(number, one, two) for one, two in itertools.product(behind, repeat=2)]
    return found


def depth_by_hand(plan):
    return 0 if plan == () else 1 + max(map(depth_by_hand, plan[1:]))


def asked(plan, answers):
    """The numbers of the questions that the plan asks."""
    return [] if plan == () else [plan[0]] + asked(plan[1] if answers[plan[0]] else plan[2], answers)


def settles_by_hand(plan, told):
    if plan == ():
        return len({figure for _, figure in told}) <= 1
    yes = [one for one in told if one[0][plan[0]]]
    no = [one for one in told if not one[0][plan[0]]]
    return settles_by_hand(plan[1], yes) and settles_by_hand(plan[2], no)


def best_by_hand(numbers, told):
    """The pair of FEWEST and LEAST SUM by all plans of these questions."""
    plans = [plan for plan in all_plans(numbers) if settles_by_hand(plan, told)]
    if not plans:
        return None, None
    return min(map(depth_by_hand, plans)), min(sum(len(asked(plan, one[0])) for one in told) for plan in plans)


def best_by_parts(numbers, told):
    """FEWEST and LEAST SUM by the best first question, for greater menus."""
    if len({figure for _, figure in told}) <= 1:
        return 0, 0
    found = []
    for number in numbers:
        others = [other for other in numbers if other != number]
        parts = [[one for one in told if one[0][number] is truth] for truth in (True, False)]
        if parts[0] and parts[1]:
            (depth, total), (far_depth, far_total) = [best_by_parts(others, part) for part in parts]
            if None not in (depth, far_depth):
                found.append((1 + max(depth, far_depth), len(told) + total + far_total))
    if not found:
        return None, None
    return min(depth for depth, _ in found), min(total for _, total in found)


class Answers(unittest.TestCase):
    def test_answers_and_lots_by_going_through_all_fillings(self):
        for cords, gapped, seen, menu in drawn_cases(70, seed=1, most=8):
            for row in brute.fillings(cords, gapped)[:40]:
                self.assertEqual(answers_of(cords, gapped, row, menu), answers_by_hand(cords, row, menu))
            told = told_by_hand(cords, gapped, seen, menu)
            lots = tuple(sorted((answers, figure, told.count((answers, figure))) for answers, figure in set(told)))
            self.assertEqual(lots_by(cords, gapped, seen, menu), lots)
            one_each = all(
                figure == other for (answers, figure), (far, other) in itertools.combinations(told, 2) if answers == far
            )
            self.assertIs(can_settle(cords, gapped, seen, menu), one_each)

    def test_answers_are_in_the_order_of_the_menu(self):
        menu = ((2, 0, 1), (1, 0, 1), (0, 0, 2), (1, 0, 3))
        self.assertEqual(answers_of(2, (None, None), (SWAP, HOOK), menu), (True, False, True, True))
        gapped = ((SWAP,), (CUT, HOOK))
        figures = {row[1]: brute.row_told(2, row)[0] for row in brute.fillings(2, gapped)}
        expected = sorted([((True, False, True, True), figures[HOOK], 1), ((False, False, True, True), figures[CUT], 1)])
        self.assertEqual(lots_by(2, gapped, (), menu), tuple(expected))

    def test_rows_that_are_no_fillings(self):
        menu = ((0, 0, 1),)
        for row in [(), (SWAP,), (HOOK, HOOK), (CUT,)]:
            self.assertEqual(told_of(answers_of, 2, ((HOOK,),), row, menu), (BadRow, (None,)))
        self.assertEqual(told_of(answers_of, 2, ((HOOK,),), (SWAP,), None), (BadRow, (None,)))
        self.assertEqual(told_of(answers_of, 2, ((HOOK,),), (("hook", 1),), None), (BadRow, (0,)))
        self.assertEqual(told_of(answers_of, 2, ((HOOK,),), (HOOK,), ((2, 0, 1),)), (BadBook, (0,)))
        self.assertEqual(answers_of(2, (), (), menu), (False,))


class Plans(unittest.TestCase):
    def test_best_plans_by_going_through_all_plans(self):
        settled = 0
        for cords, gapped, seen, menu in drawn_cases(250, seed=2):
            told = told_by_hand(cords, gapped, seen, menu)
            fewest, least = best_by_hand(range(len(menu)), told)
            self.assertEqual(fewest_questions(cords, gapped, seen, menu), fewest)
            self.assertEqual(least_sum(cords, gapped, seen, menu), least)
            self.assertIs(can_settle(cords, gapped, seen, menu), fewest is not None)
            plans = best_plan(cords, gapped, seen, menu), sum_plan(cords, gapped, seen, menu)
            if fewest is None:
                self.assertEqual(plans, (None, None))
                continue
            settled += len({figure for _, figure in told}) > 1
            self.check_best(cords, gapped, seen, menu, fewest, least, told)
        self.assertGreater(settled, 15)

    def check_best(self, cords, gapped, seen, menu, fewest, least, told):
        plan, far_plan = best_plan(cords, gapped, seen, menu), sum_plan(cords, gapped, seen, menu)
        for one in (plan, far_plan):
            self.assertEqual(need_plan(cords, gapped, menu, one), one)
            self.assertTrue(settles_by_hand(one, told))
            self.assertIs(does_settle(cords, gapped, seen, menu, one), True)
        self.assertEqual(depth_by_hand(plan), fewest)
        self.assertEqual(plan_depth(cords, gapped, menu, plan), fewest)
        self.assertEqual(plan_sum(cords, gapped, seen, menu, far_plan), least)
        self.assertEqual(sum(len(asked(far_plan, answers)) for answers, _ in told), least)
        # The facts of [59].
        figures = len({figure for _, figure in told})
        self.assertGreaterEqual(2 ** fewest, figures)
        self.assertLessEqual(least, fewest * len(told))
        if figures <= 1:
            self.assertEqual((fewest, least), (0, 0))

    def test_greater_menus_by_the_best_first_question(self):
        source = random.Random(5)
        settled = 0
        for number in range(25):
            cords = source.choice((2, 3))
            gapped = tuple(tuple(sorted(source.sample(brute.deeds_of(cords), 2))) for _ in range(source.randint(2, 5)))
            late = [question for question in brute.all_questions(cords, gapped) if question[0] >= len(gapped) - 1]
            menu = tuple(source.sample(late, 8))
            seen = brute.drawn_seen(source, cords, gapped, 2)
            told = told_by_hand(cords, gapped, seen, menu)
            fewest, least = best_by_parts(range(8), told)
            self.assertEqual(fewest_questions(cords, gapped, seen, menu), fewest)
            self.assertEqual(least_sum(cords, gapped, seen, menu), least)
            if fewest is not None:
                settled += 1
                self.check_best(cords, gapped, seen, menu, fewest, least, told)
        self.assertGreater(settled, 5)

    def test_any_plan(self):
        source = random.Random(7)
        for cords, gapped, seen, menu in drawn_cases(40, seed=3):
            told = told_by_hand(cords, gapped, seen, menu)
            plans = all_plans(range(len(menu)))
            for plan in source.sample(plans, min(12, len(plans))):
                self.assertEqual(need_plan(cords, gapped, menu, plan), plan)
                self.assertEqual(plan_depth(cords, gapped, menu, plan), depth_by_hand(plan))
                self.assertIs(does_settle(cords, gapped, seen, menu, plan), settles_by_hand(plan, told))
                total = sum(len(asked(plan, answers)) for answers, _ in told)
                self.assertEqual(plan_sum(cords, gapped, seen, menu, plan), total)

    def test_the_best_depth_and_the_best_sum_may_need_two_plans(self):
        gapped, menu = ((("cut", 1), HOOK, SWAP), (HOOK, SWAP)), ((2, 2, 3), (2, 0, 1), (2, 0, 3))
        told = told_by_hand(2, gapped, (), menu)
        self.check_best(2, gapped, (), menu, *best_by_hand(range(3), told), told)
        plan, far_plan = best_plan(2, gapped, (), menu), sum_plan(2, gapped, (), menu)
        self.assertGreater(plan_depth(2, gapped, menu, far_plan), plan_depth(2, gapped, menu, plan))
        self.assertGreater(plan_sum(2, gapped, (), menu, plan), plan_sum(2, gapped, (), menu, far_plan))

    def test_the_plan_without_questions(self):
        gapped, menu = ((HOOK, SWAP),), ((1, 0, 1),)
        self.assertEqual(plan_depth(2, gapped, menu, ()), 0)
        self.assertEqual(plan_sum(2, gapped, (), menu, ()), 0)
        self.assertIs(does_settle(2, gapped, (), menu, ()), False)
        self.assertIs(does_settle(2, gapped, ((1, 0, 1, True),), menu, ()), True)
        self.assertEqual(best_plan(2, gapped, (), menu), (0, (), ()))
        self.assertEqual((fewest_questions(2, gapped, (), menu), least_sum(2, gapped, (), menu)), (1, 2))
        # A plan is as deep where no filling comes.
        self.assertEqual(plan_depth(2, gapped, menu + ((0, 0, 1),), (1, (0, (), ()), ())), 2)
        self.assertEqual(plan_sum(2, gapped, (), menu + ((0, 0, 1),), (1, (0, (), ()), ())), 2)

    def test_no_filling_that_bears_what_is_seen(self):
        gapped, menu = (None, None), ((1, 0, 1), (2, 0, 1))
        seen = ((1, 0, 1, True), (2, 0, 1, False))
        self.assertEqual(lots_by(2, gapped, seen, menu), ())
        self.assertIs(can_settle(2, gapped, seen, menu), True)
        self.assertEqual(fewest_questions(2, gapped, seen, menu), 0)
        self.assertEqual(least_sum(2, gapped, seen, menu), 0)
        self.assertEqual(best_plan(2, gapped, seen, menu), ())
        self.assertEqual(sum_plan(2, gapped, seen, menu), ())
        self.assertEqual(needed_questions(2, gapped, seen, menu), ())
        self.assertEqual(idle_questions(2, gapped, seen, menu), (0, 1))
        self.assertIs(does_settle(2, gapped, seen, menu, (0, (1, (), ()), ())), True)
        self.assertEqual(plan_sum(2, gapped, seen, menu, (0, (1, (), ()), ())), 0)

    def test_very_many_fillings(self):
        gapped = (None,) * 12
        menu = ((12, 0, 1), (12, 0, 2), (12, 1, 3), (12, 2, 3), (12, 1, 2), (12, 0, 3), (11, 0, 1), (1, 0, 1))
        self.assertEqual(sum(many for _, _, many in lots_by(2, gapped, (), menu)), 5 ** 12)
        plan = best_plan(2, gapped, (), menu)
        self.assertIs(does_settle(2, gapped, (), menu, plan), True)
        self.assertLess(least_sum(2, gapped, (), menu), 5 ** 12 * fewest_questions(2, gapped, (), menu))
        self.assertEqual(idle_questions(2, gapped, (), menu)[-1], 7)


class Needed(unittest.TestCase):
    def test_needed_and_idle_by_going_through_all_plans(self):
        sorts = set()
        for cords, gapped, seen, menu in drawn_cases(400, seed=4):
            told = told_by_hand(cords, gapped, seen, menu)
            whole = best_by_hand(range(len(menu)), told)
            needed, idle = [], []
            for number in range(len(menu)):
                less = best_by_hand([other for other in range(len(menu)) if other != number], told)
                if less == whole:
                    idle.append(number)
                if less == (None, None) and whole != less:
                    needed.append(number)
            self.assertEqual(needed_questions(cords, gapped, seen, menu), tuple(needed))
            self.assertEqual(idle_questions(cords, gapped, seen, menu), tuple(idle))
            sorts.add((bool(needed), bool(idle)))
        self.assertGreaterEqual(len(sorts), 3)

    def test_neither_needed_nor_idle(self):
        found = 0
        for cords, gapped, seen, menu in drawn_cases(300, seed=6, most=6):
            told = set(needed_questions(cords, gapped, seen, menu)) | set(idle_questions(cords, gapped, seen, menu))
            found += len(told) < len(menu)
        self.assertGreater(found, 0)

    def test_one_question_alone(self):
        gapped = ((HOOK, SWAP),)
        self.assertEqual(needed_questions(2, gapped, (), ((1, 0, 1),)), (0,))
        self.assertEqual(idle_questions(2, gapped, (), ((1, 0, 1),)), ())
        self.assertEqual(needed_questions(2, gapped, (), ((0, 0, 1),)), ())
        self.assertEqual(idle_questions(2, gapped, (), ((0, 0, 1),)), (0,))
        self.assertEqual(needed_questions(2, gapped, (), ((1, 0, 1), (1, 0, 3))), ())
        self.assertEqual(idle_questions(2, gapped, (), ((1, 0, 1), (1, 0, 3))), (0, 1))


def pair_sizes(cords, gapped, seen, menu):
    """How many pairs of a figure and answers first deeds have at each step, as far as they bear what is seen there."""
    def looked_at(states, step):
        kept = set()
        for figure, answers in states:
            if all((figure[point] == figure[far]) is truth for at, point, far, truth in seen if at == step):
                kept.add((figure, answers + tuple(figure[one] == figure[two] for at, one, two in menu if at == step)))
        return kept

    states = looked_at({(tuple(range(cords)) * 2, ())}, 0)
    sizes = [len(states)]
    for step, item in enumerate(gapped):
        shapes = [deed_figure(cords, deed) for deed in (brute.deeds_of(cords) if item is None else item)]
        states = looked_at({(upon(cords, figure, shape), told) for figure, told in states for shape in shapes}, step + 1)
        sizes.append(len(states))
    return sizes


def calls_with(menu, plan=()):
    """All functions that go through the steps, as functions of the row with gaps and what is seen, on four cords."""
    return [
        lambda gapped, seen: lots_by(4, gapped, seen, menu), lambda gapped, seen: can_settle(4, gapped, seen, menu),
        lambda gapped, seen: fewest_questions(4, gapped, seen, menu),
        lambda gapped, seen: best_plan(4, gapped, seen, menu), lambda gapped, seen: least_sum(4, gapped, seen, menu),
        lambda gapped, seen: sum_plan(4, gapped, seen, menu),
        lambda gapped, seen: plan_sum(4, gapped, seen, menu, plan),
        lambda gapped, seen: does_settle(4, gapped, seen, menu, plan),
        lambda gapped, seen: needed_questions(4, gapped, seen, menu),
        lambda gapped, seen: idle_questions(4, gapped, seen, menu),
    ]


class TooGreats(unittest.TestCase):
    def test_pairs_of_figures_and_answers(self):
        gapped = (None,) * 4
        menu = ((1, 0, 1), (1, 0, 4), (2, 1, 2), (2, 5, 6), (3, 2, 3), (1, 3, 7), (2, 3, 7), (3, 3, 7))
        self.assertGreater(max(pair_sizes(4, gapped, (), menu)), 2000)
        self.assertLess(max(pair_sizes(4, gapped, (), ())), 2000)
        for call in calls_with(menu):
            self.assertEqual(told_of(call, gapped, ()), (TooGreat, (2000,)))
        # Answers at the last step add no pairs; what is seen there lessens them.
        late = tuple((4, 0, far) for far in range(1, 8))
        self.assertEqual(max(pair_sizes(4, gapped, (), late)), 1543)
        self.assertEqual(len(lots_by(4, gapped, (), late)), 1543)
        seen = ((4, 0, 1, True), (4, 0, 1, False))
        self.assertLess(max(pair_sizes(4, gapped, seen, menu)), 2000)
        self.assertEqual(lots_by(4, gapped, seen, menu), ())

    def test_2000_pairs_and_2001(self):
        gapped = (None,) * 4
        for menu, many in [(((1, 2, 3), (3, 0, 3)), 2000), (((2, 3, 5), (3, 3, 4)), 2001)]:
            self.assertEqual(max(pair_sizes(4, gapped, (), menu)), many)
            for call in calls_with(menu):
                self.assertIs(told_of(call, gapped, ()) == (TooGreat, (2000,)), many > 2000)

    def test_behind_other_exceptions(self):
        gapped = (None,) * 5
        menu = ((0, 0, 1),)
        self.assertEqual(told_of(plan_sum, 4, gapped, (), menu, (1, (), ())), (BadPaper, ("plan",)))
        self.assertEqual(told_of(does_settle, 4, gapped, (), menu, None), (BadPaper, ("plan",)))
        self.assertEqual(told_of(plan_sum, 4, gapped, (), menu, ()), (TooGreat, (2000,)))
        self.assertEqual(told_of(lots_by, 4, gapped, (), menu * 2), (BadBook, (1,)))
        self.assertEqual(told_of(lots_by, 4, gapped, ((0, 0, 0, True),), menu * 2), (BadSeen, (0,)))
        # These go through no steps.
        self.assertEqual(answers_of(4, gapped, (CUT,) * 5, menu), (False,))
        self.assertEqual(need_plan(4, gapped, menu, (0, (), ())), (0, (), ()))
        self.assertEqual(plan_depth(4, gapped, menu, (0, (), ())), 1)


class Refusals(unittest.TestCase):
    def test_menus_of_one_question_and_of_eight(self):
        late = tuple((1, 0, far) for far in range(1, 10))
        self.assertEqual(answers_of(5, (None,), (CUT,), late[:8]), (False,) * 8)
        self.assertEqual(answers_of(5, (None,), (JOIN,), late[:1]), (True,))
        self.assertEqual(told_of(answers_of, 5, (None,), (CUT,), late), (BadBook, (None,)))
        self.assertEqual(told_of(answers_of, 5, (None,), (CUT,), ()), (BadBook, (None,)))
        self.assertEqual(told_of(answers_of, 5, (None,), (CUT,), late[:7] + late[:1]), (BadBook, (7,)))

    def test_plans(self):
        menu = ((0, 0, 1), (1, 0, 1))
        whole = (0, (1, (), ()), (1, (), ()))
        self.assertIs(need_plan(2, (None,), menu, whole), whole)
        for wrong in [(0, (0, (), ()), ()), (0, (1, (), (0, (), ())), ()), (2, (), ()), (0, (), (2, (), ())), None, (0, ())]:
            self.assertEqual(told_of(need_plan, 2, (None,), menu, wrong), (BadPaper, ("plan",)))
            self.assertEqual(told_of(plan_depth, 2, (None,), menu, wrong), (BadPaper, ("plan",)))
        deep = ()
        for number in range(8):
            deep = (number, deep, ())
        late = tuple((1, 0, far) for far in range(1, 9))
        self.assertEqual(plan_depth(5, (None,), late, deep), 8)
        self.assertEqual(told_of(plan_depth, 5, (None,), late, (7, deep, ())), (BadPaper, ("plan",)))
        self.assertEqual(told_of(plan_depth, 2, (None,), (), deep), (BadBook, (None,)))
