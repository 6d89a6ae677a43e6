"""Arguments of all functions: by position and by name, wrong ones of every kind, two wrong ones at once: [1] to [3]."""

import importlib
import itertools
import unittest

from hookedcords.books import need_book
from hookedcords.colourings import lets, number_of_way
from hookedcords.errors import (
    BadBook, BadColours, BadCords, BadFamily, BadFigure, BadNumber, BadPaper, BadRow, HookError,
)
from hookedcords.factors import check_on
from hookedcords.families import family_deeds
from hookedcords.figures import rank_of, straight
from hookedcords.flatness import check_flattening
from hookedcords.follow import check_follow
from hookedcords.halves import need_half
from hookedcords.least import Ladder
from hookedcords.rows import figure_of
from hookedcords.turns import check_turn_paper
from tests.test_form import INTERFACE

CALLS = [
    (module, name, parameters.split()) for module, names in INTERFACE.items() for name, parameters in names.items()
    if not name.startswith("Ladder.")
]
METHODS = [
    (name.split(".")[1], parameters.split()) for name, parameters in INTERFACE["least"].items()
    if name.startswith("Ladder.")
]

# Arguments on two cords that every function takes, but for those told by TAKEN.
GOOD = {
    "cords": 2, "figure": (0, 0, 1, 1), "other": (0, 0, 1, 1), "row": (("hook", 0),), "far_row": (), "point": 0,
    "far_point": 3, "place": 0, "far_place": 1, "parted": ((0, 1), (2, 3)), "far_cords": 1, "number": 0,
    "deed": ("hook", 0), "family": ("hook",), "value": ("piece", 0), "paper": ("steps", ()), "many": 3,
    "half": ((0, 0), (0,)), "far_half": ((0, 1), (1,)), "meeting": (0,), "far_book": (), "lots": (0, 1),
    "book": (((0, 1, 0, 1), (0, 0, 1, 1)),), "far_lots": (0, 0), "top": (1, 1), "bottom": (2, 2), "way": (),
}
TAKEN = {
    ("beside", "other"): (0, 1), ("halved", "figure"): (0, 0, 1, 1, 2, 2, 3, 3),
    ("holds_family", "other"): ("hook",), ("both_figures", "other"): ("hook",),
    ("family_of_both", "other"): ("hook",), ("check_on", "paper"): ("rows", (), ()),
    ("check_flattening", "paper"): ((), (0, 0, 1, 1), ()),
}
OTHER_FAMILY = ("holds_family", "both_figures", "family_of_both")
# Functions that ask whether each figure, whole, is one of the family.
OF_FAMILY = [
    name for module, names in INTERFACE.items() if module in ("factors", "classes", "partners", "turns", "books", "follow")
    for name, parameters in names.items() if "family" in parameters
]

ANY = [None, "cut", [0, 0, 1, 1], {}, 3.5, b"ab", object()]
CORDS = [0, 6, -1, True, False, "2", (2,), 10 ** 999] + ANY
FIGURES = [(value, None) for value in ANY + [7, True, (), (0, 0, 1), (0, 0, 1, 1, 2), "0011"]] + [
    ((True, 0, 1, 1), 0), ((0, False, 1, 1), 1), ((0, 0, True, 1), 2), ((1, 0, 0, 1), 0), ((0, 2, 1, 1), 1),
    ((0, -1, 1, 1), 1), ((0, 0, 0, 2), 3), ((0, 0, "1", 1), 2), ((0, 0, None, 5), 2), ((0, (0,), 1, 1), 1),
    (((0, 0, 1, 1), 0, 1, 1), 0), ((0, 0, 1, 10 ** 999), 3), ((0, 1, 3, 2), 2), (("0", "0", "1", "1"), 0),
]
ONE_CORD = [((0, 0, 1, 1), None), (None, None), ((0, 2), 1), ((0, True), 1), ([0, 0], None)]
ROWS = [(value, None) for value in ANY + [7, True, (("hook", 0),) * 41, (None,) * 41]] + [
    ((None,), 0), (("hook", 0), 0), ((("hook", 0), ("hook", 1)), 1), ((("hook", True),), 0), ((["hook", 0],), 0),
    ((("hook",),), 0), ((("hook", 0, 0),), 0), (((0, "hook"),), 0), ((("Hook", 0),), 0), ((("hook", "0"),), 0),
    ((("hook", 0), (("hook", 0),)), 1), ((("hook", -1), None), 0), ((("hook", 0), True), 1),
]
FAMILIES = [(value, None) for value in ANY + [7, True, (), "hook", ["hook"]]] + [
    ((None,), 0), (("hook", "cut"), 1), (("hook", "hook"), 1), (("Hook",), 0), (("cut", ("hook",)), 1),
    ((("hook",),), 0), (("cut", 1), 1), (("cut", True), 1), (("cut", "join", "hook"), 2), (("",), 0),
    (("cut", "hook", "join", "swap", "swap"), 4), ((["hook"],), 0),
]
PIECES = ANY + [7, (), ((0, 1), (2,)), ((0, 1), (2, 3), ()), ((0, True), (2, 3)), ((0, 1), [2, 3])]
HALVES = [(value, "half") for value in ANY + [7, (), ((0, 0),), ((0, 0), (0,), ()), [(0, 0), (0,)]]] + [
    ((None, ()), "pieces"), (([0, 0], ()), "pieces"), (((0,), ()), "pieces"), (((0, 0, 0), ()), "pieces"),
    (((1, 0), ()), "pieces"), (((0, True), (0,)), "pieces"), (((0, 2), None), "pieces"), ((0, 0), "pieces"),
    (((0, -1), ()), "pieces"), (((0, "1"), ()), "pieces"), (((0, 0), None), "open"), (((0, 0), [0]), "open"),
    (((0, 0), (1,)), "open"), (((0, 1), (1, 0)), "open"), (((0, 1), (0, 0)), "open"), (((0, 1), (True,)), "open"),
    (((0, 1), (False, 1)), "open"), (((0, 0), (-1,)), "open"), (((0, 0), 0), "open"), (((0, 1), ("0",)), "open"),
]
MEETINGS = ANY + [7, (), (1,), (True,), (False,), [0], (0, 1), (0, 0), ((0,),), ("0",), (None,), (-1,)]
ONE = (0, 1, 0, 1)
BOOKS = [(value, None) for value in ANY + [7, True, ((ONE, ONE),) * 7, (None,) * 7]] + [
    ((None,), 0), (((ONE, ONE, ONE),), 0), (((ONE,),), 0), (((ONE, ONE), (ONE, (0, 0, 0, 0))), 1), (((ONE, None),), 0),
    (([ONE, ONE],), 0), (((ONE, list(ONE)),), 0), ((ONE, ONE), 0), (((ONE, ONE), ((0, 1, 0, True), ONE)), 1),
    (((ONE, ONE), (ONE, ONE), ((0, 1, 1, 0), ONE), None), 2), (((ONE, (0, 1)),), 0),
]
LOTS = ANY + [7, (), (0,), (0, 1, 2), (1, 0), (0, 2), (0, True), (False, 1), [0, 1], (0, -1), ("0", "1"), (0, None)]
COLOURS = [(value, None) for value in ANY + [7, True, (), (0,), (0, 0, 0), "00", [0, 0]]] + [
    ((3, 0), 0), ((0, 3), 1), ((True, 0), 0), ((0, False), 1), ((-1, 3), 0), ((0, None), 1), (("0", 0), 0),
    ((0, 10 ** 999), 1), ((0, (0,)), 1), ((None, None), 0),
]
DEEDS = ANY + [7, ("hook", 1), ("hook", True), ["hook", 0], ("hook",), (("hook", 0),), ("Hook", 0), ("cut", 2)]


def numbers(beyond):
    return [value for value in ANY + [-1, beyond, True, False, "0", (0,), 10 ** 999]]


def wrong_values(name, parameter):
    """Pairs of a wrong value and the pair of the error and its field."""
    if parameter == "cords":
        return [(value, (BadCords, value)) for value in CORDS]
    if parameter == "far_cords":
        return [(value, (BadCords, value)) for value in CORDS + [4, 5]]
    if parameter in ("figure", "other"):
        if (name, parameter) == ("beside", "other"):
            return [(value, (BadFigure, place)) for value, place in ONE_CORD]
        if name in OTHER_FAMILY:
            return [(value, (BadFamily, number)) for value, number in FAMILIES]
        if name == "halved":
            return [(value, (BadFigure, place)) for value, place in FIGURES[:12] + [((0, 0, 1, 1, 2, 2, 3, True), 7)]]
        if name in OF_FAMILY:
            others = [((0, 0, 0, 0), "family"), ((0, 1, 1, 0), "family")]
            return [(value, (BadFigure, place)) for value, place in FIGURES + others]
        return [(value, (BadFigure, place)) for value, place in FIGURES]
    if parameter in ("row", "far_row"):
        return [(value, (BadRow, number)) for value, number in ROWS]
    if parameter == "family":
        return [(value, (BadFamily, number)) for value, number in FAMILIES]
    if parameter in ("point", "far_point", "place", "far_place"):
        return [(value, (BadNumber, value)) for value in numbers(4)]
    if parameter == "number":
        beyond = {
            "figures_of_rank": 3, "fewest_leaving": 13, "row_leaving": 13, "all_halves": 3, "half_count": 3,
            "flat_halves": 3, "flat_half_count": 3, "rank_lots": 4, "pair_numbered": 9, "inner_way": 1,
        }.get(name, 2)
        values = numbers(beyond)
        if name == "of_length":
            values = [value for value in values if type(value) is not int or value < 0]
        return [(value, (BadNumber, value)) for value in values]
    if parameter == "deed":
        return [(value, (BadNumber, value)) for value in DEEDS]
    if parameter == "parted":
        return [(value, (BadFigure, "pieces")) for value in PIECES]
    if parameter == "many":
        beyond = {
            "power": 10 ** 9 + 1, "power_leftovers": 10 ** 9 + 1, "power_rings": 10 ** 9 + 1, "roots_in": 31,
        }.get(name, 10 ** 6 + 1)
        values = numbers(beyond) + ([] if beyond > 10 ** 9 else [0])
        return [(value, (BadNumber, value)) for value in values]
    if parameter in ("half", "far_half"):
        return [(value, (BadFigure, place)) for value, place in HALVES]
    if parameter == "meeting":
        return [(value, (BadNumber, value)) for value in MEETINGS]
    if parameter in ("book", "far_book"):
        return [(value, (BadBook, number)) for value, number in BOOKS]
    if parameter in ("lots", "far_lots"):
        return [(value, (BadNumber, value)) for value in LOTS]
    if parameter in ("top", "bottom"):
        return [(value, (BadColours, number)) for value, number in COLOURS]
    if parameter == "way":
        return [(value, (BadColours, "way")) for value in ANY + [7, True, ((0, 0),), [], 0, "", ((),)]]
    if parameter == "paper" and name == "check_flattening":
        values = ANY + [7, (), ((), (0, 0, 1, 1)), [(), (0, 0, 1, 1), ()], ((), (0, 0, 1, 1), (), ())]
        return [(value, (BadPaper, "form")) for value in values]
    if parameter == "paper" and name != "check_on":
        values = ANY + [7, True, (), ("steps",), ("steps", (), ()), ["steps", ()], ("Steps", ()), (("steps",), ())]
        return [(value, (BadPaper, "form")) for value in values + [(None, ()), ("", ()), ("rows", ()), "steps"]]
    if parameter == "paper":
        return [(value, (BadPaper, "form")) for value in ANY + [(), ("rows",), ("rows", ()), ["rows", (), ()], 7]]
    return []


def good_values(name, parameters):
    return [TAKEN.get((name, parameter), GOOD[parameter]) for parameter in parameters]


def is_plain(value):
    if type(value) is tuple:
        return all(is_plain(one) for one in value)
    return value is None or type(value) in (int, str, bool)


class Arguments(unittest.TestCase):
    def check_refused(self, call, values, expected):
        with self.assertRaises(HookError) as caught:
            call(*values)
        error, field = expected
        self.assertIs(type(caught.exception), error, (call, values))
        told = list(vars(caught.exception).values())
        self.assertEqual(len(told), 1)
        self.assertIs(type(told[0]), type(field), (call, values))
        self.assertEqual(told[0], field, (call, values))

    def check_call(self, name, call, parameters):
        good = good_values(name, parameters)
        wrong = [wrong_values(name, parameter) for parameter in parameters]
        for at, values in enumerate(wrong):
            for value, expected in values:
                self.check_refused(call, good[:at] + [value] + good[at + 1:], expected)
        for at, far in itertools.combinations(range(len(parameters)), 2):
            for value, expected in wrong[at]:
                for far_value, _ in wrong[far][::4]:
                    values = list(good)
                    values[at] = value
                    values[far] = far_value
                    self.check_refused(call, values, expected)

    def test_wrong_arguments_and_two_at_once(self):
        for module, name, parameters in CALLS:
            self.check_call(name, getattr(importlib.import_module("hookedcords." + module), name), parameters)

    def test_wrong_arguments_of_the_ladder(self):
        ladder = Ladder(2, ("hook",))
        for name, parameters in METHODS:
            self.check_call(name, getattr(ladder, name), parameters)

    def test_things_that_say_to_be_equal_to_all(self):
        class Equal:
            def __eq__(self, other):
                return True

        one = Equal()
        calls = [
            (figure_of, (2, ((one, 0),)), (BadRow, 0)), (figure_of, (2, (("cut", one),)), (BadRow, 0)),
            (figure_of, (2, (one,)), (BadRow, 0)), (figure_of, (2, one), (BadRow, None)),
            (family_deeds, (2, (one,)), (BadFamily, 0)), (family_deeds, (2, one), (BadFamily, None)),
            (straight, (one,), (BadCords, one)), (rank_of, (1, (one, one)), (BadFigure, 0)),
            (check_on, (1, ("cut",), (0, 0), (0, 0), (one, (), ())), (BadPaper, "form")),
            (check_on, (1, ("cut",), (0, 0), (0, 0), ("rows", (one,), ())), (BadPaper, "rows")),
            (check_on, (1, ("cut",), (0, 0), (0, 1), ("closed", (one,))), (BadPaper, "closed")),
            (check_turn_paper, (1, ("cut",), (0, 0), (0, 0), (one, ())), (BadPaper, "form")),
            (check_turn_paper, (1, ("cut",), (0, 0), (0, 0), ("steps", (one,))), (BadPaper, "steps")),
            (check_turn_paper, (1, ("cut",), (0, 0), (0, 1), ("closed", (one,))), (BadPaper, "closed")),
            (check_follow, (1, ("cut",), (), (0, 0), (0, 0), (one, ())), (BadPaper, "form")),
            (check_follow, (1, ("cut",), (), (0, 0), (0, 0), ("steps", (one,))), (BadPaper, "form")),
            (check_follow, (1, ("cut",), (), (0, 0), (0, 1), ("lots", (0, one))), (BadPaper, "form")),
            (check_flattening, (1, (0, 0), (one, one, one)), (BadPaper, "row")),
            (need_half, (1, (one, one)), (BadFigure, "pieces")), (need_half, (1, ((0,), (one,))), (BadFigure, "open")),
            (need_book, (1, ("cut",), (one,)), (BadBook, 0)), (need_book, (1, ("cut",), one), (BadBook, None)),
            (lets, (1, (0, 0), 2, (one,), (0,)), (BadColours, 0)),
            (number_of_way, (1, (("cut", 0),) * 2, 2, (0,), (0,), ((one,),)), (BadColours, "way")),
        ]
        for call, values, expected in calls:
            self.check_refused(call, list(values), expected)

    def test_all_wrong_at_once(self):
        for module, name, parameters in CALLS:
            call = getattr(importlib.import_module("hookedcords." + module), name)
            if parameters:
                self.check_refused(call, [None] * len(parameters), (BadCords, None))

    def test_by_position_and_by_name(self):
        ladder = Ladder(cords=2, family=("hook",))
        calls = [
            (name, getattr(importlib.import_module("hookedcords." + module), name), parameters)
            for module, name, parameters in CALLS if name != "Ladder"
        ]
        calls += [(name, getattr(ladder, name), parameters) for name, parameters in METHODS]
        for name, call, parameters in calls:
            good = good_values(name, parameters)
            told = call(*good)
            self.assertTrue(is_plain(told), name)
            self.assertEqual(call(**dict(zip(parameters, good))), told)
            self.assertEqual(call(**dict(list(zip(parameters, good))[::-1])), told)

    def test_an_object_is_equal_to_itself_alone(self):
        one, other = Ladder(2, ("hook",)), Ladder(2, ("hook",))
        self.assertTrue(one == one and one != other and not one == other and one != 0)
        self.assertEqual((one.cords, one.family), (2, ("hook",)))
        with self.assertRaises(TypeError):
            one + other
