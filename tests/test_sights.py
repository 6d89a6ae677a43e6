"""What is seen of rows with gaps: [56], [57], by going through all fillings."""

import itertools
import random
import unittest

from hookedcords.errors import BadNumber, BadPaper, BadRow, BadSeen, TooGreat
from hookedcords.figures import upon
from hookedcords.rows import deed_figure, figure_of, leftovers_of
from hookedcords.sightings import bearing_paper, check_bearing
from hookedcords.sights import (
    bearing_at, bears, ends, left_ends, many_bearing, need_seen, number_bearing, shows, sure_lots, sure_sight,
    sure_sights,
)
from tests import brute
from tests.brute import told_of

HOOK, SWAP, CUT = ("hook", 0), ("swap", 0), ("cut", 0)


def counted(things):
    return tuple(sorted((thing, things.count(thing)) for thing in set(things)))


class Bearing(unittest.TestCase):
    def test_by_going_through_all_fillings(self):
        for cords, gapped, seen in brute.drawn_sightings(70, seed=2):
            rows = brute.bearing(cords, gapped, seen)
            self.assertIs(need_seen(cords, gapped, seen), seen)
            self.assertEqual(many_bearing(cords, gapped, seen), len(rows))
            for number, row in list(enumerate(rows))[::1 if len(rows) < 40 else 7]:
                self.assertEqual(bearing_at(cords, gapped, seen, number), row)
                self.assertEqual(number_bearing(cords, gapped, seen, row), number)
            for number in (len(rows), len(rows) + 1, 10 ** 999):
                self.assertEqual(told_of(bearing_at, cords, gapped, seen, number), (BadNumber, (number,)))
            for row in brute.fillings(cords, gapped)[:40] + brute.some_rows(cords, 10, 5, seed=len(rows)):
                self.assertIs(bears(cords, gapped, seen, row), row in rows)
                number = rows.index(row) if row in rows else None
                self.assertEqual(number_bearing(cords, gapped, seen, row), number)

    def test_what_rows_show(self):
        source = random.Random(6)
        for cords in (1, 2, 3, 5):
            for row in brute.some_rows(cords, 12, 40, seed=9):
                questions = [source.choice(brute.all_questions(cords, row)) for _ in range(6)]
                seen = tuple(question + (source.random() < 0.5,) for question in questions) * 2
                told = shows(cords, row, seen)
                self.assertEqual(told, tuple(brute.does_show(cords, row, sight) for sight in seen))
                self.assertTrue(all(type(one) is bool for one in told))
        self.assertEqual(shows(2, (), ()), ())
        self.assertEqual(shows(2, (HOOK,) * 40, ((40, 0, 1, True), (0, 0, 1, True))), (True, False))
        self.assertEqual(told_of(shows, 2, (HOOK,) * 40, ((41, 0, 1, True),)), (BadSeen, (0,)))

    def test_ends_by_going_through_all_fillings(self):
        for cords, gapped, seen in brute.drawn_sightings(60, seed=3):
            rows = brute.bearing(cords, gapped, seen)
            told = [brute.row_told(cords, row) for row in rows]
            self.assertEqual(ends(cords, gapped, seen), counted([figure for figure, _ in told]))
            self.assertEqual(left_ends(cords, gapped, seen), counted([left for _, left in told]))

    def test_top_points_stay_together(self):
        for cords in (1, 2, 3, 4):
            for row in brute.some_rows(cords, 20, 12, seed=4):
                for point, far_point in itertools.combinations(range(cords), 2):
                    told = shows(cords, row[:11], tuple((step, point, far_point, True) for step in range(len(row[:11]) + 1)))
                    self.assertEqual(list(told), sorted(told))

    def test_more_sights_bear_no_more(self):
        for cords, gapped, seen in brute.drawn_sightings(30, seed=5):
            for number in range(len(seen)):
                self.assertGreaterEqual(many_bearing(cords, gapped, seen[:number]), many_bearing(cords, gapped, seen))
                self.assertEqual(many_bearing(cords, gapped, seen), many_bearing(cords, gapped, seen[::-1]))

    def test_twelve_sights_and_thirteen(self):
        one = (1, 0, 1, True)
        self.assertEqual(many_bearing(2, ((HOOK, SWAP),), (one,) * 12), 1)
        self.assertEqual(told_of(many_bearing, 2, ((HOOK, SWAP),), (one,) * 13), (BadSeen, (None,)))
        self.assertEqual(told_of(need_seen, 2, ((HOOK, SWAP),), (one,) * 11 + ((2, 0, 1, True),)), (BadSeen, (11,)))

    def test_sights_that_speak_against_one_another(self):
        seen = ((1, 0, 1, True), (1, 0, 1, False))
        gapped = (None, None)
        self.assertEqual(many_bearing(2, gapped, seen), 0)
        self.assertEqual(ends(2, gapped, seen), ())
        self.assertEqual(left_ends(2, gapped, seen), ())
        self.assertIsNone(sure_lots(2, gapped, seen))
        self.assertEqual(sure_sights(2, gapped, seen), ())
        self.assertIsNone(sure_sight(2, gapped, seen, 0, 0, 2))
        self.assertIsNone(number_bearing(2, gapped, seen, (HOOK, HOOK)))
        self.assertEqual(told_of(bearing_at, 2, gapped, seen, 0), (BadNumber, (0,)))
        late = ((2, 0, 1, True), (1, 0, 1, True), (2, 0, 1, False))
        self.assertIsNone(sure_sight(2, gapped, late, 1, 0, 1))

    def test_twelve_items(self):
        gapped = (None,) * 12
        self.assertEqual(many_bearing(3, gapped, ()), 9 ** 12)
        seen = ((12, 0, 1, False), (12, 0, 3, True))
        for number in (0, 1, 10 ** 6, many_bearing(3, gapped, seen) - 1):
            row = bearing_at(3, gapped, seen, number)
            self.assertTrue(bears(3, gapped, seen, row))
            self.assertEqual(shows(3, row, seen), (True, True))
            self.assertEqual(number_bearing(3, gapped, seen, row), number)
        self.assertEqual(sum(many for _, many in left_ends(3, gapped, ())), 9 ** 12)
        self.assertEqual(left_ends(1, gapped, ()), ((11, 1),))
        self.assertEqual(sum(many for _, many in ends(3, gapped, seen)), many_bearing(3, gapped, seen))


class Sure(unittest.TestCase):
    def test_by_going_through_all_fillings(self):
        for cords, gapped, seen in brute.drawn_sightings(45, seed=7, most=3):
            rows = brute.bearing(cords, gapped, seen)
            courses = [brute.figures_on_way(cords, row) for row in rows]
            lots = tuple(tuple(sorted({row[at] for row in rows})) for at in range(len(gapped)))
            self.assertEqual(sure_lots(cords, gapped, seen), lots if rows else None)
            sure = []
            for step, point, far_point in brute.all_questions(cords, gapped):
                truths = {course[step][point] == course[step][far_point] for course in courses}
                truth = truths.pop() if len(truths) == 1 else None
                self.assertIs(sure_sight(cords, gapped, seen, step, point, far_point), truth)
                if truth is not None:
                    sure.append((step, point, far_point, truth))
            self.assertEqual(sure_sights(cords, gapped, seen), tuple(sure))

    def test_what_is_sure_only_by_a_later_sight(self):
        gapped = ((HOOK, SWAP), (SWAP,))
        self.assertIsNone(sure_sight(2, gapped, (), 1, 0, 1))
        self.assertIs(sure_sight(2, gapped, ((2, 0, 1, True),), 1, 0, 1), True)
        self.assertEqual(sure_lots(2, gapped, ((2, 0, 1, True),)), ((HOOK,), (SWAP,)))
        self.assertIs(sure_sight(2, gapped, ((2, 0, 1, False),), 1, 0, 3), True)

    def test_the_documents_example(self):
        self.assertEqual(sure_sights(1, (None,), ()), ((0, 0, 1, True), (1, 0, 1, False)))

    def test_rows_without_items(self):
        self.assertEqual(sure_lots(2, (), ()), ())
        self.assertIsNone(sure_lots(2, (), ((0, 0, 1, True),)))
        told = sure_sights(2, (), ())
        self.assertEqual([sight[1:3] for sight in told if sight[3]], [(0, 2), (1, 3)])
        self.assertEqual(len(told), 6)

    def test_points_that_cannot_stand_in_a_sight(self):
        for step, point, far_point, value in [
            (3, 0, 1, 3), (-1, 0, 0, -1), (True, 0, 1, True), (0, 3, 4, 3), (0, 3, 3, 3), (0, -1, 9, -1),
            (0, 1, 1, 1), (0, 1, 0, 0), (0, 0, 4, 4), (0, 2, 4, 4), (2, 0, True, True), (None, None, None, None),
            (0, "0", 1, "0"), (0, False, 1, False), (0, 2, 2, 2),
        ]:
            told = told_of(sure_sight, 2, (None, None), (), step, point, far_point)
            self.assertEqual(told, (BadNumber, (value,)))
            self.assertIs(type(told[1][0]), type(value))
        self.assertIs(sure_sight(2, (None, None), (), 0, 2, 3), False)


class Papers(unittest.TestCase):
    def test_papers_of_drawn_cases(self):
        sorts = set()
        for cords, gapped, seen in brute.drawn_sightings(80, seed=8):
            rows = brute.bearing(cords, gapped, seen)
            paper = bearing_paper(cords, gapped, seen)
            sorts.add(paper[0])
            self.assertEqual(paper[0], "row" if rows else "closed")
            self.assertIs(check_bearing(cords, gapped, seen, paper), bool(rows))
            for row in brute.fillings(cords, gapped)[:30]:
                expected = True if row in rows else (BadPaper, ("row",))
                self.assertEqual(told_of(check_bearing, cords, gapped, seen, ("row", row)), expected)
        self.assertEqual(sorts, {"row", "closed"})

    def test_closed_papers_by_the_words_of_the_document(self):
        source = random.Random(9)
        for cords, gapped, seen in brute.drawn_sightings(60, seed=10, cords=(1, 2)):
            figures = brute.all_figures(cords)
            for _ in range(12):
                layers = []
                for step in range(len(gapped) + 1):
                    layers.append({figure for figure in figures if source.random() < source.choice((0.1, 0.9, 1))})
                if source.random() < 0.9:
                    layers[-1] = set()
                told = told_of(check_bearing, cords, gapped, seen, ("closed", tuple(tuple(sorted(one)) for one in layers)))
                expected = False if self.is_closed(cords, gapped, seen, layers) else (BadPaper, ("closed",))
                self.assertEqual(told, expected)

    def is_closed(self, cords, gapped, seen, layers):
        def is_kept(figure, step):
            shown = all(
                (figure[point] == figure[far]) is truth for at, point, far, truth in seen if at == step
            )
            return figure in layers[step] or not shown

        if layers[-1] or not is_kept(tuple(range(cords)) * 2, 0):
            return False
        for step, item in enumerate(gapped):
            for deed in brute.deeds_of(cords) if item is None else item:
                for figure in layers[step]:
                    if not is_kept(brute.upon(cords, figure, brute.deed_figure(cords, deed)), step + 1):
                        return False
        return True

    def test_a_paper_with_one_figure_less_is_refused(self):
        refused = 0
        for cords, gapped, seen in brute.drawn_sightings(250, seed=11):
            word, told = bearing_paper(cords, gapped, seen)
            if word == "closed":
                for step, layer in enumerate(told):
                    for figure in layer:
                        less = told[:step] + (tuple(one for one in layer if one != figure),) + told[step + 1:]
                        self.assertEqual(told_of(check_bearing, cords, gapped, seen, (word, less)), (BadPaper, (word,)))
                        refused += 1
        self.assertGreater(refused, 20)

    def test_more_figures_than_are_needed(self):
        gapped, seen = ((HOOK,), (SWAP,)), ((2, 0, 1, False),)
        straight, hooked = (0, 1, 0, 1), (0, 0, 1, 1)
        self.assertIs(check_bearing(2, gapped, seen, ("closed", ((straight,), (hooked,), ()))), False)
        # One more in a layer must lead on as the others do: straight leads to a swap, which shows what is seen.
        wrong = ("closed", ((straight,), (hooked, straight), ()))
        self.assertEqual(told_of(check_bearing, 2, gapped, seen, wrong), (BadPaper, ("closed",)))
        more = ("closed", ((hooked, straight), ((0, 0, 0, 0), hooked), ()))
        self.assertIs(check_bearing(2, gapped, seen, more), False)

    def test_what_is_no_paper(self):
        gapped, seen = ((HOOK,),), ((1, 0, 1, False),)
        straight, hooked = (0, 1, 0, 1), (0, 0, 1, 1)
        self.assertIs(check_bearing(2, gapped, seen, ("closed", ((straight,), ()))), False)
        for told in [
            None, (), ((straight,),), ((straight,), (), ()), [(straight,), ()], ((straight,), None), (None, ()),
            ((straight, straight), ()), ((straight, hooked), ()), ([straight], ()), ((list(straight),), ()),
            ((straight,), []), (((0, 1, 0, True),), ()), ((straight, (0, 1, 2)), ()), ((), ()), ((hooked,), ()),
            ((straight,), (hooked,)), "closed", ((straight, None), ()), (((0, 1),), ()),
        ]:
            self.assertEqual(told_of(check_bearing, 2, gapped, seen, ("closed", told)), (BadPaper, ("closed",)), told)
        for told in [None, (), (HOOK,), [HOOK], (SWAP,), (HOOK, HOOK), ("hook", 0), (["hook", 0],), (("hook", False),)]:
            self.assertEqual(told_of(check_bearing, 2, gapped, seen, ("row", told)), (BadPaper, ("row",)), told)
        self.assertIs(check_bearing(2, gapped, ((1, 0, 1, True),), ("row", (HOOK,))), True)
        self.assertEqual(told_of(check_bearing, 2, (), ((0, 0, 1, True),), ("row", ())), (BadPaper, ("row",)))
        self.assertIs(check_bearing(2, (), ((0, 0, 1, True),), ("closed", ((),))), False)
        self.assertEqual(told_of(check_bearing, 2, (), (), ("closed", ((),))), (BadPaper, ("closed",)))

    def test_layers_of_2000_figures_and_of_2001(self):
        # Straight doesn't show what is seen at first, and below a cut nothing shows what is seen at last.
        figures = tuple(brute.all_figures(4))
        gapped, seen = ((CUT,),), ((0, 0, 1, True), (1, 0, 4, True))
        for many, expected in ((0, False), (2000, False), (2001, (BadPaper, ("closed",)))):
            told = told_of(check_bearing, 4, gapped, seen, ("closed", (figures[:many], ())))
            self.assertEqual(told, expected)


def layer_sizes(cords, gapped, seen):
    """How many figures the first deeds of fillings have at each step, as far as they bear what is seen there."""
    def shown(figures, step):
        told = [sight for sight in seen if sight[0] == step]
        return {one for one in figures if all((one[point] == one[far]) is truth for _, point, far, truth in told)}

    layer = shown({tuple(range(cords)) * 2}, 0)
    sizes = [len(layer)]
    for step, item in enumerate(gapped):
        shapes = [deed_figure(cords, deed) for deed in (brute.deeds_of(cords) if item is None else item)]
        layer = shown({upon(cords, one, shape) for one in layer for shape in shapes}, step + 1)
        sizes.append(len(layer))
    return sizes


def calls_by_seen(cords, gapped):
    """All functions that go through the steps, as functions of what is seen."""
    return [
        lambda seen: many_bearing(cords, gapped, seen), lambda seen: bearing_at(cords, gapped, seen, 0),
        lambda seen: number_bearing(cords, gapped, seen, ()), lambda seen: ends(cords, gapped, seen),
        lambda seen: left_ends(cords, gapped, seen), lambda seen: sure_lots(cords, gapped, seen),
        lambda seen: sure_sight(cords, gapped, seen, 0, 0, 1), lambda seen: sure_sights(cords, gapped, seen),
        lambda seen: bearing_paper(cords, gapped, seen),
    ]


class TooGreats(unittest.TestCase):
    def test_more_than_2000_figures_at_a_step(self):
        gapped = (None,) * 5
        self.assertGreater(max(layer_sizes(4, gapped, ())), 2000)
        for call in calls_by_seen(4, gapped):
            self.assertEqual(told_of(call, ()), (TooGreat, (2000,)))
        # A sight at a step lessens the figures of this step, one at a later step doesn't.
        late = ((5, 0, 1, True), (5, 0, 1, False))
        self.assertEqual(told_of(many_bearing, 4, gapped, late), 0)
        self.assertEqual(told_of(many_bearing, 4, gapped + (None,), ((6, 0, 1, True), (6, 0, 1, False))), (TooGreat, (2000,)))
        self.assertEqual(many_bearing(4, gapped + (None,), ((1, 0, 1, True), (1, 0, 1, False))), 0)
        # These go through no steps.
        self.assertIs(bears(4, gapped, (), (CUT,) * 5), True)
        self.assertIs(need_seen(4, gapped, late), late)
        self.assertIs(check_bearing(4, gapped, (), ("row", (CUT,) * 5)), True)
        self.assertEqual(told_of(check_bearing, 4, gapped, (), ("closed", ((),) * 6)), (BadPaper, ("closed",)))

    def test_2000_figures_and_2001(self):
        last = tuple(deed for deed in brute.deeds_of(4) if deed not in [CUT, ("cut", 2), SWAP, ("swap", 1)])
        gapped, seen = (None,) * 4 + (last,), ((5, 5, 6, False),)
        self.assertEqual(layer_sizes(4, gapped, seen)[-1], 2000)
        self.assertEqual(len(ends(4, gapped, seen)), 2000)
        for call in calls_by_seen(4, gapped):
            self.assertNotEqual(told_of(call, seen), (TooGreat, (2000,)))
        gapped, seen = (None,) * 5, ((5, 1, 6, False), (5, 2, 5, False))
        self.assertEqual(layer_sizes(4, gapped, seen)[-1], 2001)
        for call in calls_by_seen(4, gapped):
            self.assertEqual(told_of(call, seen), (TooGreat, (2000,)))
            self.assertNotEqual(told_of(call, seen + ((5, 2, 6, False),)), (TooGreat, (2000,)))

    def test_ahead_of_and_behind_other_exceptions(self):
        gapped = (None,) * 5
        self.assertEqual(told_of(bearing_at, 4, gapped, (), -1), (BadNumber, (-1,)))
        self.assertEqual(told_of(bearing_at, 4, gapped, (), True), (BadNumber, (True,)))
        self.assertEqual(told_of(bearing_at, 4, gapped, (), 10 ** 999), (TooGreat, (2000,)))
        self.assertEqual(told_of(number_bearing, 4, gapped, (), (("cut", 4),)), (BadRow, (0,)))
        self.assertEqual(told_of(number_bearing, 4, gapped, (), (CUT,)), (TooGreat, (2000,)))
        self.assertEqual(told_of(sure_sight, 4, gapped, (), 0, 0, 8), (BadNumber, (8,)))
        self.assertEqual(told_of(many_bearing, 4, gapped, ((6, 0, 1, True),)), (BadSeen, (0,)))

    def test_seen_comes_ahead_of_row(self):
        self.assertEqual(told_of(bears, 2, (None,), None, None), (BadSeen, (None,)))
        self.assertEqual(told_of(number_bearing, 2, (None,), (None,), None), (BadSeen, (0,)))
        self.assertEqual(told_of(shows, 2, (("cut", 2),), None), (BadRow, (0,)))
        self.assertEqual(told_of(bears, 2, (HOOK,), None, None), (BadRow, (0,)))


class Ends(unittest.TestCase):
    def test_ends_of_drawn_fillings(self):
        source = random.Random(3)
        for cords in (4, 5):
            gapped = tuple(tuple(sorted(source.sample(brute.deeds_of(cords), 2))) for _ in range(9))
            rows = brute.fillings(cords, gapped)
            self.assertEqual(dict(ends(cords, gapped, ())), dict(counted([figure_of(cords, row) for row in rows])))
            self.assertEqual(left_ends(cords, gapped, ()), counted([leftovers_of(cords, row) for row in rows]))
