"""Live weaves: [64], against a weave told by the whole course of its rows, and refusals that change nothing."""

import copy
import random
import unittest

from hookedcords.errors import BadCords, BadName, BadNumber, BadRow, NothingBack, TooGreat
from hookedcords.live import Weave, under
from tests import brute
from tests.brute import told_of

HOOK, SWAP, CUT = ("hook", 0), ("swap", 0), ("cut", 0)


class Model:
    """A weave as the course of all rows it had, and how far on it is in this course."""

    def __init__(self, cords):
        self.cords = cords
        self.course = [()]
        self.at = 0
        self.marks = {}

    @property
    def row(self):
        return self.course[self.at]

    def step(self, row):
        if len(row) > 40:
            return TooGreat, (40,)
        self.course = self.course[:self.at + 1] + [row]
        self.at += 1
        return None

    def move(self, many):
        if not 0 <= self.at + many < len(self.course):
            return NothingBack, ()
        self.at += many
        return None


def stands(weave):
    """All that can be seen of a weave, without changing it: also its steps, and those that can be done again."""
    twin = weave.copy()
    rows = []
    while told_of(twin.undo) is None:
        rows.append(twin.row)
    rows.append("again")
    while told_of(twin.again) is None:
        rows.append(twin.row)
    return weave.cords, weave.row, weave.marks, rows


def model_stands(model):
    rows = model.course[:model.at][::-1]
    return model.cords, model.row, tuple(sorted(model.marks.items())), rows + ["again"] + model.course[1:]


class Weaves(unittest.TestCase):
    def do(self, source, weave, model):
        """The same deed to both; what both tell."""
        row = source.choice(brute.some_rows(model.cords, 6, 9, seed=source.randrange(1000)) + [()])
        kind = source.randrange(8)
        many = source.choice((1, 1, 1, 2, 3, 7))
        name = source.choice(("a", "b", "abcdefgh"))
        if kind == 0:
            return told_of(weave.work, row), model.step(model.row + row)
        if kind == 1:
            return told_of(weave.work_above, row), model.step(row + model.row)
        if kind == 2:
            return told_of(weave.turn_over), model.step(model.row[::-1])
        if kind in (3, 4):
            return told_of(lambda: weave.undo(many=many)), model.move(-many)
        if kind == 5:
            return told_of(lambda: weave.again(many=many)), model.move(many)
        if kind == 6:
            model.marks[name] = model.row
            return weave.mark(name), None
        told = (BadName, (name,))
        if name in model.marks:
            told = brute.row_told(model.cords, model.marks[name])[0] == brute.row_told(model.cords, model.row)[0]
        return told_of(weave.is_alike, name), told

    def check_same(self, weave, model):
        self.assertEqual(stands(weave), model_stands(model))
        figure, left = brute.row_told(model.cords, model.row)
        self.assertEqual((weave.figure(), weave.leftovers(), len(weave)), (figure, left, len(model.row)))

    def test_drawn_deeds(self):
        for seed in range(60):
            source = random.Random(seed)
            cords = source.choice((1, 2, 3, 4, 5))
            weave, model = Weave(cords), Model(cords)
            for _ in range(30):
                told, expected = self.do(source, weave, model)
                self.assertEqual(told, expected)
                self.check_same(weave, model)

    def test_drawn_deeds_in_trials(self):
        for seed in range(60):
            source = random.Random(100 + seed)
            cords = source.choice((1, 2, 3))
            weave, model = Weave(cords), Model(cords)
            trials = [weave.trial() for _ in range(4)]
            for _ in range(8):
                self.do(source, weave, model)
            self.in_trials(source, weave, model, trials)
            self.check_same(weave, model)

    def in_trials(self, source, weave, model, trials):
        """Drawn deeds in a trial, and in the midst of them the next trial; some blocks end with an error."""
        kept = copy.deepcopy(model)
        is_broken = source.random() < 0.5
        try:
            with trials[0] as one:
                self.assertIs(one, weave)
                for _ in range(5):
                    self.do(source, weave, model)
                if trials[1:]:
                    self.in_trials(source, weave, model, trials[1:])
                self.check_same(weave, model)
                for _ in range(5):
                    self.do(source, weave, model)
                if is_broken:
                    raise KeyError("broken")
            self.assertFalse(is_broken)
        except KeyError:
            self.assertTrue(is_broken)
        model.course, model.at, model.marks = kept.course, kept.at, kept.marks
        self.check_same(weave, model)

    def test_a_new_weave(self):
        for cords in (1, 2, 3, 4, 5):
            weave = Weave(cords)
            self.assertEqual((weave.cords, weave.row, weave.marks, len(weave)), (cords, (), (), 0))
            self.assertEqual((weave.figure(), weave.leftovers()), (tuple(range(cords)) * 2, 0))
            self.assertEqual(told_of(weave.undo), (NothingBack, ()))
            self.assertEqual(told_of(weave.again), (NothingBack, ()))

    def test_steps_that_leave_the_row_as_it_was(self):
        weave = Weave(2)
        weave.work(())
        weave.work_above(())
        weave.turn_over()
        self.assertEqual(told_of(lambda: weave.undo(many=4)), (NothingBack, ()))
        weave.undo(many=3)
        self.assertEqual(told_of(weave.undo), (NothingBack, ()))
        weave.again(many=3)
        weave.work((HOOK,))
        weave.undo()
        weave.work(())
        self.assertEqual(told_of(weave.again), (NothingBack, ()))

    def test_as_many_steps_as_there_are_and_one_more(self):
        weave = Weave(1)
        for many in range(6):
            self.assertEqual(told_of(lambda: weave.undo(many=many + 1)), (NothingBack, ()))
            self.assertEqual(len(weave), many)
            if many:
                weave.undo(many=many)
                self.assertEqual(weave.row, ())
                self.assertEqual(told_of(lambda: weave.again(many=many + 1)), (NothingBack, ()))
                self.assertEqual(weave.row, ())
                weave.again(many=many)
            weave.work((CUT,))

    def test_40_deeds_and_41(self):
        for call in ("work", "work_above"):
            weave = Weave(2)
            getattr(weave, call)((HOOK,) * 39)
            self.assertEqual(told_of(getattr(weave, call), (CUT, CUT)), (TooGreat, (40,)))
            self.assertEqual(len(weave), 39)
            getattr(weave, call)((CUT,))
            self.assertEqual(len(weave), 40)
            before = stands(weave)
            self.assertEqual(told_of(getattr(weave, call), (CUT,)), (TooGreat, (40,)))
            self.assertEqual(told_of(getattr(weave, call), (CUT, ("cut", 2))), (BadRow, (1,)))
            self.assertEqual(told_of(getattr(weave, call), (CUT,) * 41), (BadRow, (None,)))
            self.assertEqual(stands(weave), before)
            getattr(weave, call)(())
            weave.turn_over()
            self.assertEqual(len(weave), 40)

    def test_above_and_below(self):
        weave = Weave(2)
        weave.work((HOOK, SWAP))
        weave.work_above((CUT, ("cut", 1)))
        self.assertEqual(weave.row, (CUT, ("cut", 1), HOOK, SWAP))
        weave.turn_over()
        self.assertEqual(weave.row, (SWAP, HOOK, ("cut", 1), CUT))

    def test_refusals_change_nothing(self):
        weave = Weave(2)
        weave.work((HOOK,))
        weave.work((SWAP,))
        weave.mark("a")
        weave.undo()
        before = stands(weave)
        calls = [
            lambda: weave.work(None), lambda: weave.work((("hook", 1),)), lambda: weave.work_above((HOOK, None)),
            lambda: weave.undo(many=0), lambda: weave.undo(many=True), lambda: weave.undo(many=2),
            lambda: weave.again(many=2), lambda: weave.again(many=-1), lambda: weave.mark("A"), lambda: weave.mark(""),
            lambda: weave.mark("abcdefghi"), lambda: weave.mark(None), lambda: weave.is_alike("b"),
            lambda: weave.is_alike(["a"]), lambda: weave.hang_together(4, 0), lambda: weave.hang_together(0, True),
        ]
        for call in calls:
            self.assertIsInstance(told_of(call), tuple)
            self.assertEqual(stands(weave), before)

    def test_refusals(self):
        for value in (0, 6, True, None, "2"):
            self.assertEqual(told_of(Weave, value), (BadCords, (value,)))
        weave = Weave(2)
        weave.mark("abcdefgh")
        weave.mark("z")
        self.assertEqual(weave.marks, (("abcdefgh", ()), ("z", ())))
        for value in ("", "abcdefghi", "A", "a1", "a b", "a\n", None, 7, ("a",), {}, ["z"]):
            self.assertEqual(told_of(weave.mark, value), (BadName, (value,)))
            self.assertEqual(told_of(weave.is_alike, value), (BadName, (value,)))
        self.assertEqual(told_of(weave.is_alike, "y"), (BadName, ("y",)))
        self.assertEqual(told_of(weave.hang_together, 4, 5), (BadNumber, (4,)))
        self.assertEqual(told_of(weave.hang_together, 3, -1), (BadNumber, (-1,)))
        self.assertEqual(told_of(lambda: weave.undo(many=10 ** 999)), (NothingBack, ()))
        self.assertEqual(told_of(lambda: weave.undo(many=-10 ** 999)), (BadNumber, (-10 ** 999,)))

    def test_points_that_hang_together(self):
        for cords in (1, 2, 3, 5):
            for row in brute.some_rows(cords, 8, 12, seed=2):
                weave = Weave(cords)
                weave.work(row)
                figure = brute.row_told(cords, row)[0]
                for point in range(2 * cords):
                    for far_point in range(2 * cords):
                        self.assertIs(weave.hang_together(point, far_point), figure[point] == figure[far_point])


class Marks(unittest.TestCase):
    def test_a_mark_is_no_step(self):
        weave = Weave(2)
        weave.work((HOOK,))
        weave.undo()
        weave.mark("a")
        weave.again()
        self.assertEqual(weave.row, (HOOK,))
        self.assertEqual(weave.marks, (("a", ()),))
        weave.mark("a")
        self.assertEqual(weave.marks, (("a", (HOOK,)),))
        weave.undo()
        self.assertEqual(weave.marks, (("a", (HOOK,)),))

    def test_alike_by_the_figure(self):
        weave = Weave(2)
        weave.work((HOOK,))
        weave.mark("a")
        weave.work((HOOK,))
        self.assertIs(weave.is_alike("a"), True)
        weave.work((SWAP,))
        self.assertIs(weave.is_alike("a"), True)
        weave.work((CUT,))
        self.assertIs(weave.is_alike("a"), False)

    def test_marks_are_told_anew(self):
        weave = Weave(1)
        told = weave.marks
        weave.mark("b")
        weave.mark("a")
        self.assertEqual((told, weave.marks), ((), (("a", ()), ("b", ()))))
        with self.assertRaises(AttributeError):
            weave.row = ()


class Copies(unittest.TestCase):
    def test_a_copy_goes_on_by_itself(self):
        weave = Weave(2)
        weave.work((HOOK,))
        weave.work((SWAP,))
        weave.mark("a")
        weave.undo()
        twin = weave.copy()
        before = stands(weave)
        self.assertEqual(stands(twin), before)
        self.assertIsNot(twin, weave)
        twin.again()
        twin.undo(many=2)
        twin.mark("b")
        twin.mark("a")
        twin.work((CUT,))
        self.assertEqual(stands(weave), before)
        weave.undo()
        self.assertEqual(twin.row, (CUT,))
        self.assertEqual(twin.marks, (("a", ()), ("b", ())))

    def test_equality(self):
        one, two = Weave(2), Weave(2)
        self.assertTrue(one == two and not one != two)
        two.work((HOOK,))
        self.assertTrue(one != two and not one == two)
        one.work(())
        one.mark("a")
        one.work((HOOK,))
        self.assertTrue(one == two)
        self.assertTrue(Weave(1) != Weave(2))
        one = Weave(2)
        one.work((CUT,))
        two = Weave(3)
        two.work((CUT,))
        self.assertTrue(one != two)
        for other in (None, 1, (), ((HOOK,)), "H0", object()):
            self.assertIs(one == other, False)
            self.assertIs(one != other, True)
            self.assertIs(other == one, False)

    def test_operators_that_are_not_described(self):
        one, two = Weave(2), Weave(2)
        for call in (lambda: one + two, lambda: one < two, lambda: one >= two, lambda: one * 2, lambda: HOOK in one,
                     lambda: one[0], lambda: -one, lambda: one | two, lambda: () + one, lambda: list(one)):
            with self.assertRaises(TypeError):
                call()


class Trials(unittest.TestCase):
    def test_the_block_gets_the_weave_and_all_comes_back(self):
        weave = Weave(2)
        weave.work((HOOK,))
        weave.work((CUT,))
        weave.mark("a")
        weave.undo()
        before = stands(weave)
        with weave.trial() as one:
            self.assertIs(one, weave)
            one.undo()
            one.work((SWAP, SWAP))
            one.mark("a")
            one.mark("b")
        self.assertEqual(stands(weave), before)
        weave.again()
        self.assertEqual(weave.row, (HOOK, CUT))

    def test_errors_go_on(self):
        weave = Weave(2)
        for error in (ValueError("one"), KeyError("two"), NothingBack()):
            with self.assertRaises(type(error)) as caught:
                with weave.trial():
                    weave.work((HOOK,))
                    raise error
            self.assertIs(caught.exception, error)
            self.assertEqual((weave.row, told_of(weave.undo)), ((), (NothingBack, ())))

    def test_a_trial_made_ahead_of_steps(self):
        weave = Weave(2)
        trial = weave.trial()
        weave.work((HOOK,))
        weave.mark("a")
        with trial:
            weave.work((SWAP,))
        self.assertEqual((weave.row, weave.marks), ((HOOK,), (("a", (HOOK,)),)))

    def test_one_within_another(self):
        weave = Weave(2)
        with weave.trial():
            weave.work((HOOK,))
            with weave.trial() as one:
                one.work((CUT,))
                one.undo(many=2)
            self.assertEqual(stands(weave), (2, (HOOK,), (), [(), "again", (HOOK,)]))
            weave.work((SWAP,))
        self.assertEqual(weave.row, ())
        self.assertEqual(told_of(weave.again), (NothingBack, ()))

    def test_a_copy_made_in_a_trial_stays(self):
        weave = Weave(2)
        with weave.trial() as one:
            one.work((HOOK,))
            twin = one.copy()
        self.assertEqual((twin.row, weave.row), ((HOOK,), ()))

    def test_under(self):
        weave = Weave(2)
        self.assertEqual(under(weave.trial(), lambda one: (one.work((HOOK, HOOK)), one.leftovers())[1]), 1)
        self.assertEqual(weave.row, ())
        self.assertIs(under(manager=weave.trial(), deed=lambda one: one), weave)

        def broken(one):
            one.work((CUT,))
            raise KeyError("broken")

        with self.assertRaises(KeyError):
            under(weave.trial(), broken)
        self.assertEqual(weave.row, ())
        self.assertEqual(told_of(under, weave.trial(), lambda one: one.undo()), (NothingBack, ()))
