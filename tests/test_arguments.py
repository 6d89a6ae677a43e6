"""Arguments of all functions: by position and by name, wrong ones of every kind, two wrong ones at once: [1] to [3]."""

import importlib
import itertools
import unittest

from hookedcords.errors import (
    BadCords, BadFamily, BadFigure, BadNumber, BadPaper, BadRow, HookError,
)
from hookedcords.factors import check_on
from hookedcords.families import family_deeds
from hookedcords.figures import rank_of, straight
from hookedcords.least import Ladder
from hookedcords.rows import figure_of
from tests.test_form import INTERFACE

CALLS = [
    (module, name, parameters.split()) for module, names in INTERFACE.items() for name, parameters in names.items()
    if not name.startswith("Ladder.")
]
METHODS = [
    (name.split(".")[1], parameters.split()) for name, parameters in INTERFACE["least"].items()
    if name.startswith("Ladder.")
]

# Arguments on two cords that every function takes, but for those told by TAKEN.
GOOD = {
    "cords": 2, "figure": (0, 0, 1, 1), "other": (0, 0, 1, 1), "row": (("hook", 0),), "far_row": (), "point": 0,
    "far_point": 3, "place": 0, "far_place": 1, "parted": ((0, 1), (2, 3)), "far_cords": 1, "number": 0,
    "deed": ("hook", 0), "family": ("hook",), "value": ("piece", 0), "paper": ("rows", (), ()),
}
TAKEN = {
    ("beside", "other"): (0, 1), ("halved", "figure"): (0, 0, 1, 1, 2, 2, 3, 3),
    ("holds_family", "other"): ("hook",), ("both_figures", "other"): ("hook",),
    ("family_of_both", "other"): ("hook",),
}
OTHER_FAMILY = ("holds_family", "both_figures", "family_of_both")

ANY = [None, "cut", [0, 0, 1, 1], {}, 3.5, b"ab", object()]
CORDS = [0, 6, -1, True, False, "2", (2,), 10 ** 999] + ANY
FIGURES = [(value, None) for value in ANY + [7, True, (), (0, 0, 1), (0, 0, 1, 1, 2), "0011"]] + [
    ((True, 0, 1, 1), 0), ((0, False, 1, 1), 1), ((0, 0, True, 1), 2), ((1, 0, 0, 1), 0), ((0, 2, 1, 1), 1),
    ((0, -1, 1, 1), 1), ((0, 0, 0, 2), 3), ((0, 0, "1", 1), 2), ((0, 0, None, 5), 2), ((0, (0,), 1, 1), 1),
    (((0, 0, 1, 1), 0, 1, 1), 0), ((0, 0, 1, 10 ** 999), 3), ((0, 1, 3, 2), 2), (("0", "0", "1", "1"), 0),
]
ONE_CORD = [((0, 0, 1, 1), None), (None, None), ((0, 2), 1), ((0, True), 1), ([0, 0], None)]
ROWS = [(value, None) for value in ANY + [7, True, (("hook", 0),) * 41, (None,) * 41]] + [
    ((None,), 0), (("hook", 0), 0), ((("hook", 0), ("hook", 1)), 1), ((("hook", True),), 0), ((["hook", 0],), 0),
    ((("hook",),), 0), ((("hook", 0, 0),), 0), (((0, "hook"),), 0), ((("Hook", 0),), 0), ((("hook", "0"),), 0),
    ((("hook", 0), (("hook", 0),)), 1), ((("hook", -1), None), 0), ((("hook", 0), True), 1),
]
FAMILIES = [(value, None) for value in ANY + [7, True, (), "hook", ["hook"]]] + [
    ((None,), 0), (("hook", "cut"), 1), (("hook", "hook"), 1), (("Hook",), 0), (("cut", ("hook",)), 1),
    ((("hook",),), 0), (("cut", 1), 1), (("cut", True), 1), (("cut", "join", "hook"), 2), (("",), 0),
    (("cut", "hook", "join", "swap", "swap"), 4), ((["hook"],), 0),
]
PIECES = ANY + [7, (), ((0, 1), (2,)), ((0, 1), (2, 3), ()), ((0, True), (2, 3)), ((0, 1), [2, 3])]
DEEDS = ANY + [7, ("hook", 1), ("hook", True), ["hook", 0], ("hook",), (("hook", 0),), ("Hook", 0), ("cut", 2)]


def numbers(beyond):
    return [value for value in ANY + [-1, beyond, True, False, "0", (0,), 10 ** 999]]


def wrong_values(name, parameter):
    """Pairs of a wrong value and the pair of the error and its field."""
    if parameter == "cords":
        return [(value, (BadCords, value)) for value in CORDS]
    if parameter == "far_cords":
        return [(value, (BadCords, value)) for value in CORDS + [4, 5]]
    if parameter in ("figure", "other"):
        if (name, parameter) == ("beside", "other"):
            return [(value, (BadFigure, place)) for value, place in ONE_CORD]
        if name in OTHER_FAMILY:
            return [(value, (BadFamily, number)) for value, number in FAMILIES]
        if name == "halved":
            return [(value, (BadFigure, place)) for value, place in FIGURES[:12] + [((0, 0, 1, 1, 2, 2, 3, True), 7)]]
        return [(value, (BadFigure, place)) for value, place in FIGURES]
    if parameter in ("row", "far_row"):
        return [(value, (BadRow, number)) for value, number in ROWS]
    if parameter == "family":
        return [(value, (BadFamily, number)) for value, number in FAMILIES]
    if parameter in ("point", "far_point", "place", "far_place"):
        return [(value, (BadNumber, value)) for value in numbers(4)]
    if parameter == "number":
        beyond = {"figures_of_rank": 3, "fewest_leaving": 13, "row_leaving": 13}.get(name, 2)
        values = numbers(beyond)
        if name == "of_length":
            values = [value for value in values if type(value) is not int or value < 0]
        return [(value, (BadNumber, value)) for value in values]
    if parameter == "deed":
        return [(value, (BadNumber, value)) for value in DEEDS]
    if parameter == "parted":
        return [(value, (BadFigure, "pieces")) for value in PIECES]
    if parameter == "paper":
        return [(value, (BadPaper, "form")) for value in ANY + [(), ("rows",), ("rows", ()), ["rows", (), ()], 7]]
    return []


def good_values(name, parameters):
    return [TAKEN.get((name, parameter), GOOD[parameter]) for parameter in parameters]


def is_plain(value):
    if type(value) is tuple:
        return all(is_plain(one) for one in value)
    return value is None or type(value) in (int, str, bool)


class Arguments(unittest.TestCase):
    def check_refused(self, call, values, expected):
        with self.assertRaises(HookError) as caught:
            call(*values)
        error, field = expected
        self.assertIs(type(caught.exception), error, (call, values))
        told = list(vars(caught.exception).values())
        self.assertEqual(len(told), 1)
        self.assertIs(type(told[0]), type(field), (call, values))
        self.assertEqual(told[0], field, (call, values))

    def check_call(self, name, call, parameters):
        good = good_values(name, parameters)
        wrong = [wrong_values(name, parameter) for parameter in parameters]
        for at, values in enumerate(wrong):
            for value, expected in values:
                self.check_refused(call, good[:at] + [value] + good[at + 1:], expected)
        for at, far in itertools.combinations(range(len(parameters)), 2):
            for value, expected in wrong[at]:
                for far_value, _ in wrong[far][::4]:
                    values = list(good)
                    values[at] = value
                    values[far] = far_value
                    self.check_refused(call, values, expected)

    def test_wrong_arguments_and_two_at_once(self):
        for module, name, parameters in CALLS:
            self.check_call(name, getattr(importlib.import_module("hookedcords." + module), name), parameters)

    def test_wrong_arguments_of_the_ladder(self):
        ladder = Ladder(2, ("hook",))
        for name, parameters in METHODS:
            self.check_call(name, getattr(ladder, name), parameters)

    def test_things_that_say_to_be_equal_to_all(self):
        class Equal:
            def __eq__(self, other):
                return True

        one = Equal()
        calls = [
            (figure_of, (2, ((one, 0),)), (BadRow, 0)), (figure_of, (2, (("cut", one),)), (BadRow, 0)),
            (figure_of, (2, (one,)), (BadRow, 0)), (figure_of, (2, one), (BadRow, None)),
            (family_deeds, (2, (one,)), (BadFamily, 0)), (family_deeds, (2, one), (BadFamily, None)),
            (straight, (one,), (BadCords, one)), (rank_of, (1, (one, one)), (BadFigure, 0)),
            (check_on, (1, ("cut",), (0, 0), (0, 0), (one, (), ())), (BadPaper, "form")),
            (check_on, (1, ("cut",), (0, 0), (0, 0), ("rows", (one,), ())), (BadPaper, "rows")),
            (check_on, (1, ("cut",), (0, 0), (0, 1), ("closed", (one,))), (BadPaper, "closed")),
        ]
        for call, values, expected in calls:
            self.check_refused(call, list(values), expected)

    def test_all_wrong_at_once(self):
        for module, name, parameters in CALLS:
            call = getattr(importlib.import_module("hookedcords." + module), name)
            if parameters:
                self.check_refused(call, [None] * len(parameters), (BadCords, None))

    def test_by_position_and_by_name(self):
        ladder = Ladder(cords=2, family=("hook",))
        calls = [
            (name, getattr(importlib.import_module("hookedcords." + module), name), parameters)
            for module, name, parameters in CALLS if name != "Ladder"
        ]
        calls += [(name, getattr(ladder, name), parameters) for name, parameters in METHODS]
        for name, call, parameters in calls:
            good = good_values(name, parameters)
            told = call(*good)
            self.assertTrue(is_plain(told), name)
            self.assertEqual(call(**dict(zip(parameters, good))), told)
            self.assertEqual(call(**dict(list(zip(parameters, good))[::-1])), told)

    def test_an_object_is_equal_to_itself_alone(self):
        one, other = Ladder(2, ("hook",)), Ladder(2, ("hook",))
        self.assertTrue(one == one and one != other and not one == other and one != 0)
        self.assertEqual((one.cords, one.family), (2, ("hook",)))
        with self.assertRaises(TypeError):
            one + other
