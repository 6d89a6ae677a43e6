"""Arguments of all functions: by position and by name, wrong ones of every kind, two wrong ones at once: [1] to [3]."""

import importlib
import itertools
import unittest

from hookedcords.books import need_book
from hookedcords.colourings import lets, number_of_way
from hookedcords.counts import need_sum
from hookedcords.desk import Desk
from hookedcords.errors import (
    BadBook, BadColours, BadCords, BadFamily, BadFigure, BadName, BadNumber, BadPaper, BadRow, BadSeen, BadSum,
    BadWords, HookError, TooGreat,
)
from hookedcords.factors import check_on
from hookedcords.families import family_deeds
from hookedcords.figures import rank_of, straight
from hookedcords.flatness import check_flattening
from hookedcords.follow import check_follow
from hookedcords.gaps import need_gapped
from hookedcords.guide import Guide
from hookedcords.halves import need_half
from hookedcords.least import Ladder
from hookedcords.live import Weave
from hookedcords.questions import answers_of, need_plan
from hookedcords.rows import figure_of
from hookedcords.sightings import check_bearing
from hookedcords.sights import need_seen
from hookedcords.texts import read_row
from hookedcords.turns import check_turn_paper
from tests.test_form import INTERFACE

# What takes no values that could be refused, or other objects, is tested in the files of these modules.
APART = ("Guide", "Desk", "under")
CALLS = [
    (module, name, parameters.split()) for module, names in INTERFACE.items() for name, parameters in names.items()
    if "." not in name and name not in APART
]
METHODS = [
    (name, parameters.split()) for names in INTERFACE.values() for name, parameters in names.items() if "." in name
]


def fresh_weave():
    weave = Weave(2)
    weave.mark("abc")
    for _ in range(3):
        weave.work((("hook", 0),))
    weave.undo(many=2)
    return weave


def fresh_guide():
    return Guide(fresh_weave(), ("cut",), (0, 0, 1, 2))


def fresh_desk():
    desk = Desk()
    desk.say("weave 2")
    return desk


MAKERS = {"Ladder": lambda: Ladder(2, ("hook",)), "Weave": fresh_weave, "Guide": fresh_guide, "Desk": fresh_desk}


def method_of(name):
    """A method, called of a fresh object each time; parameters behind a bare star come by their names."""
    kind, word = name.split(".")
    parameters = [one for names in INTERFACE.values() for one in names.get(name, "").split()]

    def call(*values, **told):
        method = getattr(MAKERS[kind](), word)
        alone = [one[1:] for one in parameters if one.startswith("*")]
        return method(*values, **told) if not alone else method(**dict(zip(alone, values)), **told)

    return call

# Arguments on two cords that every function takes, but for those told by TAKEN.
GOOD = {
    "cords": 2, "figure": (0, 0, 1, 1), "other": (0, 0, 1, 1), "row": (("hook", 0),), "far_row": (), "point": 0,
    "far_point": 3, "place": 0, "far_place": 1, "parted": ((0, 1), (2, 3)), "far_cords": 1, "number": 0,
    "deed": ("hook", 0), "family": ("hook",), "value": ("piece", 0), "paper": ("steps", ()), "many": 3,
    "half": ((0, 0), (0,)), "far_half": ((0, 1), (1,)), "meeting": (0,), "far_book": (), "lots": (0, 1),
    "book": (((0, 1, 0, 1), (0, 0, 1, 1)),), "far_lots": (0, 0), "top": (1, 1), "bottom": (2, 2), "way": (),
    "terms": (((0, 0, 1, 1), 2), ((0, 1, 0, 1), -1)), "gapped": ((("hook", 0),),), "seen": ((1, 0, 1, True),),
    "menu": ((1, 0, 2), (0, 0, 1)), "plan": (1, (), (0, (), ())), "step": 1, "name": "abc", "line": "row",
}
TAKEN = {
    ("beside", "other"): (0, 1), ("halved", "figure"): (0, 0, 1, 1, 2, 2, 3, 3),
    ("holds_family", "other"): ("hook",), ("both_figures", "other"): ("hook",),
    ("family_of_both", "other"): ("hook",), ("check_on", "paper"): ("rows", (), ()),
    ("check_flattening", "paper"): ((), (0, 0, 1, 1), ()),
    ("added", "other"): (((0, 0, 0, 0), 7),), ("upon_sum", "other"): (((0, 0, 0, 0), 7),),
    ("gapped_between", "far_row"): (("swap", 0),), ("check_bearing", "paper"): ("row", (("hook", 0),)),
    ("read_row", "text"): "H0", ("read_figure", "text"): "t0 t1 / b0 b1", ("read_book", "text"): "none",
    ("read_family", "text"): "hook", ("sheet_told", "text"): "cords 2", ("judged", "text"): "cords 2",
}
OF_SUMS = ("added", "upon_sum")
OTHER_FAMILY = ("holds_family", "both_figures", "family_of_both")
# Functions that ask whether each figure, whole, is one of the family.
OF_FAMILY = [
    name for module, names in INTERFACE.items() if module in ("factors", "classes", "partners", "turns", "books", "follow")
    for name, parameters in names.items() if "family" in parameters
]

ANY = [None, "cut", [0, 0, 1, 1], {}, 3.5, b"ab", object()]
CORDS = [0, 6, -1, True, False, "2", (2,), 10 ** 999] + ANY
FIGURES = [(value, None) for value in ANY + [7, True, (), (0, 0, 1), (0, 0, 1, 1, 2), "0011"]] + [
    ((True, 0, 1, 1), 0), ((0, False, 1, 1), 1), ((0, 0, True, 1), 2), ((1, 0, 0, 1), 0), ((0, 2, 1, 1), 1),
    ((0, -1, 1, 1), 1), ((0, 0, 0, 2), 3), ((0, 0, "1", 1), 2), ((0, 0, None, 5), 2), ((0, (0,), 1, 1), 1),
    (((0, 0, 1, 1), 0, 1, 1), 0), ((0, 0, 1, 10 ** 999), 3), ((0, 1, 3, 2), 2), (("0", "0", "1", "1"), 0),
]
ONE_CORD = [((0, 0, 1, 1), None), (None, None), ((0, 2), 1), ((0, True), 1), ([0, 0], None)]
ROWS = [(value, None) for value in ANY + [7, True, (("hook", 0),) * 41, (None,) * 41]] + [
    ((None,), 0), (("hook", 0), 0), ((("hook", 0), ("hook", 1)), 1), ((("hook", True),), 0), ((["hook", 0],), 0),
    ((("hook",),), 0), ((("hook", 0, 0),), 0), (((0, "hook"),), 0), ((("Hook", 0),), 0), ((("hook", "0"),), 0),
    ((("hook", 0), (("hook", 0),)), 1), ((("hook", -1), None), 0), ((("hook", 0), True), 1),
]
FAMILIES = [(value, None) for value in ANY + [7, True, (), "hook", ["hook"]]] + [
    ((None,), 0), (("hook", "cut"), 1), (("hook", "hook"), 1), (("Hook",), 0), (("cut", ("hook",)), 1),
    ((("hook",),), 0), (("cut", 1), 1), (("cut", True), 1), (("cut", "join", "hook"), 2), (("",), 0),
    (("cut", "hook", "join", "swap", "swap"), 4), ((["hook"],), 0),
]
PIECES = ANY + [7, (), ((0, 1), (2,)), ((0, 1), (2, 3), ()), ((0, True), (2, 3)), ((0, 1), [2, 3])]
HALVES = [(value, "half") for value in ANY + [7, (), ((0, 0),), ((0, 0), (0,), ()), [(0, 0), (0,)]]] + [
    ((None, ()), "pieces"), (([0, 0], ()), "pieces"), (((0,), ()), "pieces"), (((0, 0, 0), ()), "pieces"),
    (((1, 0), ()), "pieces"), (((0, True), (0,)), "pieces"), (((0, 2), None), "pieces"), ((0, 0), "pieces"),
    (((0, -1), ()), "pieces"), (((0, "1"), ()), "pieces"), (((0, 0), None), "open"), (((0, 0), [0]), "open"),
    (((0, 0), (1,)), "open"), (((0, 1), (1, 0)), "open"), (((0, 1), (0, 0)), "open"), (((0, 1), (True,)), "open"),
    (((0, 1), (False, 1)), "open"), (((0, 0), (-1,)), "open"), (((0, 0), 0), "open"), (((0, 1), ("0",)), "open"),
]
MEETINGS = ANY + [7, (), (1,), (True,), (False,), [0], (0, 1), (0, 0), ((0,),), ("0",), (None,), (-1,)]
ONE = (0, 1, 0, 1)
BOOKS = [(value, None) for value in ANY + [7, True, ((ONE, ONE),) * 7, (None,) * 7]] + [
    ((None,), 0), (((ONE, ONE, ONE),), 0), (((ONE,),), 0), (((ONE, ONE), (ONE, (0, 0, 0, 0))), 1), (((ONE, None),), 0),
    (([ONE, ONE],), 0), (((ONE, list(ONE)),), 0), ((ONE, ONE), 0), (((ONE, ONE), ((0, 1, 0, True), ONE)), 1),
    (((ONE, ONE), (ONE, ONE), ((0, 1, 1, 0), ONE), None), 2), (((ONE, (0, 1)),), 0),
]
# Books of figures that other families have than ("hook",).
OF_FAMILIES = [((ONE, ONE), (ONE, (0, 0, 0, 0))), ((ONE, ONE), (ONE, ONE), ((0, 1, 1, 0), ONE), None)]
LOTS = ANY + [7, (), (0,), (0, 1, 2), (1, 0), (0, 2), (0, True), (False, 1), [0, 1], (0, -1), ("0", "1"), (0, None)]
COLOURS = [(value, None) for value in ANY + [7, True, (), (0,), (0, 0, 0), "00", [0, 0]]] + [
    ((3, 0), 0), ((0, 3), 1), ((True, 0), 0), ((0, False), 1), ((-1, 3), 0), ((0, None), 1), (("0", 0), 0),
    ((0, 10 ** 999), 1), ((0, (0,)), 1), ((None, None), 0),
]
HOOK = ("hook", 0)
TERMS = [(value, None) for value in ANY + [7, True, ((ONE, 1),) * 201, (None,) * 201, "", [(ONE, 1)]]] + [
    ((None,), 0), ((ONE,), 0), (((ONE, 0),), 0), (((ONE, True),), 0), (((ONE, "1"),), 0), (((ONE, None),), 0),
    (((ONE, 1), (ONE, 1)), 1), ((((0, 1, 1, 0), 1), (ONE, 1)), 1), (([ONE, 1],), 0), (((ONE, 1, 1),), 0),
    (((list(ONE), 1),), 0), ((((0, 1, 0, True), 1),), 0), ((((0, 1), 1),), 0), (((ONE, 1), ((1, 0, 1, 0), 1)), 1),
    ((((0, 0, 0, 2), 1), None), 0), (((ONE, False), None), 0), (((1, ONE),), 0), (((ONE, 3.5),), 0),
]
GAPPED = [(value, None) for value in ANY[1:] + [7, True, (None,) * 13, (7,) * 13, [None]]] + [(None, None)] + [
    (((),), 0), ((HOOK,), 0), (((HOOK, HOOK),), 0), (((("swap", 0), HOOK),), 0), (([HOOK],), 0),
    (((HOOK,), (("hook", 1),)), 1), ((None, ("cut", 0)), 1), ((None, None, True), 2), ((((HOOK,),),), 0),
    (((("hook", True),),), 0), ((0,), 0), (((HOOK, None),), 0), ((((), HOOK),), 0), (((None,),), 0), (("",), 0),
]
SEEN = [(value, None) for value in ANY + [7, True, ((0, 0, 1, True),) * 13, (None,) * 13, [(0, 0, 1, True)]]] + [
    ((None,), 0), (((0, 0, 1),), 0), (((0, 0, 1, 1),), 0), (((0, 0, 1, 0),), 0), (((0, 0, 0, True),), 0),
    (((0, 1, 0, True),), 0), (((2, 0, 1, True),), 0), (((-1, 0, 1, True),), 0), (((0, 0, 4, True),), 0),
    (((0, -1, 1, True),), 0), (((True, 0, 1, True),), 0), (((0, False, 1, True),), 0), (((0, 0, True, True),), 0),
    (((0, 0, 1, True), (0, 0, 1, None)), 1), (((0, 0, 1, True, True),), 0), (([0, 0, 1, True],), 0),
    (((0, 0, 1, True), (1, 2, 3, False), (0, 0, 10 ** 999, True)), 2), ((0, 0, 1, True), 0), (("0011",), 0),
]
MENUS = [(value, None) for value in ANY + [7, True, (), tuple((1, 0, 1) for _ in range(9)), [(0, 0, 1)]]] + [
    ((None,), 0), (((0, 0, 1, True),), 0), (((0, 0),), 0), (((0, 0, 1), (0, 0, 1)), 1), (((0, 1, 1),), 0),
    (((0, 0, 1), (0, 0, 2), (0, 0, 1), None), 2), (((2, 0, 1),), 0), (((0, 2, 1),), 0), (((0, 0, 4),), 0),
    (((0, 0, True),), 0), (((False, 0, 1),), 0), (((0, 0, 1), [0, 0, 2]), 1), ((0, 0, 1), 0), (((-1, 0, 1),), 0),
]
PLANS = ANY + [
    7, True, (0,), (0, ()), (0, (), (), ()), (2, (), ()), (-1, (), ()), (True, (), ()), (False, (), ()), ("0", (), ()),
    (None, (), ()), (0, (0, (), ()), ()), (0, (), (1, (), (0, (), ()))), (0, [], ()), (0, (), None), [0, (), ()],
    ((), (), ()), (0, (1, (), ()), (1, (), (1, (), ()))), (0, (), (2, (), ())), (10 ** 999, (), ()),
]
NAMES = ANY[:1] + ANY[2:] + ["", "A", "aB", "abcdefghi", "a b", "a1", "a\n", " a", "a ", 7, True, ("abc",), ["abc"]]
DEEDS = ANY + [7, ("hook", 1), ("hook", True), ["hook", 0], ("hook",), (("hook", 0),), ("Hook", 0), ("cut", 2)]


def numbers(beyond):
    return [value for value in ANY + [-1, beyond, True, False, "0", (0,), 10 ** 999]]


def wrong_texts(name):
    """Pairs of a wrong text and the number of the word that is wrong, for what reads texts on two cords."""
    wrong = {
        "read_row": [("", 0), ("H0 ", 1), (" H0", 0), ("H1", 0), ("H0  C1", 1), ("C2", 0), ("- -", 1), ("h0", 0)],
        "read_figure": [("", 0), ("t0", 1), ("t1", 0), ("t0 b0 / b1", 3), ("t0 t1 b0 b1 /", 4), ("t0 /", 2)],
        "read_book": [("", 0), ("none none", 1), ("t0 t1 b0 b1", 4), ("t0 t1 b0 b1 =", 5), ("none ", 1)],
        "read_family": [("", 0), ("hook cut", 1), ("hook hook", 1), ("hook ", 1), ("Hook", 0), ("hook\ncut", 0)],
    }.get(name, [("", 0), ("cords", 1), ("cords 0", 1), ("cords 6", 1), ("cords 2 ", 2), ("Cords 2", 0)])
    return [(text, (BadWords, 0, word)) for text, word in wrong]


def wrong_values(name, parameter):
    """Pairs of a wrong value and a tuple of the error and its fields."""
    if parameter == "terms" or (parameter == "other" and name in OF_SUMS):
        return [(value, (BadSum, number)) for value, number in TERMS]
    if parameter == "gapped":
        return [(value, (BadRow, number)) for value, number in GAPPED]
    if parameter == "seen":
        return [(value, (BadSeen, number)) for value, number in SEEN]
    if parameter == "menu":
        return [(value, (BadBook, number)) for value, number in MENUS]
    if parameter == "plan":
        return [(value, (BadPaper, "plan")) for value in PLANS]
    if parameter == "text":
        values = [value for value in ANY if type(value) is not str] + [7, True, ("H0",)]
        return [(value, (BadWords, None, None)) for value in values] + wrong_texts(name)
    if parameter == "name":
        others = ["b", "abcd"] if name == "Weave.is_alike" else []
        return [(value, (BadName, value)) for value in NAMES + others]
    if parameter in ("row", "far_row") and name in ("answers_of", "gapped_between"):
        others = [(HOOK,) * 13] if name == "gapped_between" else [(), (("swap", 0),), (("hook", 0),) * 2]
        return [(value, (BadRow, number)) for value, number in ROWS + [(value, None) for value in others]]
    if parameter == "step" or (parameter in ("point", "far_point") and name == "sure_sight"):
        beyond = {"step": 2, "point": 3, "far_point": 4}[parameter]
        return [(value, (BadNumber, value)) for value in numbers(beyond) + [0] * (parameter == "far_point")]
    if parameter == "book" and name == "book_text":
        return [(value, (BadBook, number)) for value, number in BOOKS if value not in OF_FAMILIES]
    if parameter == "paper" and name == "check_bearing":
        values = ANY + [7, True, (), ("row",), ("row", (), ()), ["row", ()], ("Row", ()), (None, ()), ("rows", ())]
        return [(value, (BadPaper, "form")) for value in values]
    if parameter == "cords":
        return [(value, (BadCords, value)) for value in CORDS]
    if parameter == "far_cords":
        return [(value, (BadCords, value)) for value in CORDS + [4, 5]]
    if parameter in ("figure", "other"):
        if (name, parameter) == ("beside", "other"):
            return [(value, (BadFigure, place)) for value, place in ONE_CORD]
        if name in OTHER_FAMILY:
            return [(value, (BadFamily, number)) for value, number in FAMILIES]
        if name == "halved":
            return [(value, (BadFigure, place)) for value, place in FIGURES[:12] + [((0, 0, 1, 1, 2, 2, 3, True), 7)]]
        if name in OF_FAMILY:
            others = [((0, 0, 0, 0), "family"), ((0, 1, 1, 0), "family")]
            return [(value, (BadFigure, place)) for value, place in FIGURES + others]
        return [(value, (BadFigure, place)) for value, place in FIGURES]
    if parameter in ("row", "far_row"):
        return [(value, (BadRow, number)) for value, number in ROWS]
    if parameter == "family":
        return [(value, (BadFamily, number)) for value, number in FAMILIES]
    if parameter in ("point", "far_point", "place", "far_place"):
        return [(value, (BadNumber, value)) for value in numbers(4)]
    if parameter == "number":
        beyond = {
            "figures_of_rank": 3, "fewest_leaving": 13, "row_leaving": 13, "all_halves": 3, "half_count": 3,
            "flat_halves": 3, "flat_half_count": 3, "rank_lots": 4, "pair_numbered": 9, "inner_way": 1,
            "power_sum": 65, "filling_at": 1, "bearing_at": 1,
        }.get(name, 2)
        values = numbers(beyond)
        if name == "Ladder.of_length":
            values = [value for value in values if type(value) is not int or value < 0]
        return [(value, (BadNumber, value)) for value in values]
    if parameter == "deed":
        return [(value, (BadNumber, value)) for value in DEEDS]
    if parameter == "parted":
        return [(value, (BadFigure, "pieces")) for value in PIECES]
    if parameter in ("many", "*many"):
        if parameter == "*many":
            return [(value, (BadNumber, value)) for value in ANY + [0, -1, True, False, "1", (1,), -10 ** 999]]
        beyond = {
            "power": 10 ** 9 + 1, "power_leftovers": 10 ** 9 + 1, "power_rings": 10 ** 9 + 1, "roots_in": 31,
        }.get(name, 10 ** 6 + 1)
        values = numbers(beyond) + ([] if beyond > 10 ** 9 else [0])
        return [(value, (BadNumber, value)) for value in values]
    if parameter in ("half", "far_half"):
        return [(value, (BadFigure, place)) for value, place in HALVES]
    if parameter == "meeting":
        return [(value, (BadNumber, value)) for value in MEETINGS]
    if parameter in ("book", "far_book"):
        return [(value, (BadBook, number)) for value, number in BOOKS]
    if parameter in ("lots", "far_lots"):
        return [(value, (BadNumber, value)) for value in LOTS]
    if parameter in ("top", "bottom"):
        return [(value, (BadColours, number)) for value, number in COLOURS]
    if parameter == "way":
        return [(value, (BadColours, "way")) for value in ANY + [7, True, ((0, 0),), [], 0, "", ((),)]]
    if parameter == "paper" and name == "check_flattening":
        values = ANY + [7, (), ((), (0, 0, 1, 1)), [(), (0, 0, 1, 1), ()], ((), (0, 0, 1, 1), (), ())]
        return [(value, (BadPaper, "form")) for value in values]
    if parameter == "paper" and name != "check_on":
        values = ANY + [7, True, (), ("steps",), ("steps", (), ()), ["steps", ()], ("Steps", ()), (("steps",), ())]
        return [(value, (BadPaper, "form")) for value in values + [(None, ()), ("", ()), ("rows", ()), "steps"]]
    if parameter == "paper":
        return [(value, (BadPaper, "form")) for value in ANY + [(), ("rows",), ("rows", ()), ["rows", (), ()], 7]]
    return []


def good_values(name, parameters):
    return [TAKEN.get((name, parameter), GOOD.get(parameter, 1)) for parameter in parameters]


OBJECTS = ("Weave.copy", "Weave.trial")


def is_plain(value):
    if type(value) is tuple:
        return all(is_plain(one) for one in value)
    return value is None or type(value) in (int, str, bool)


class Arguments(unittest.TestCase):
    def check_refused(self, call, values, expected):
        with self.assertRaises(HookError) as caught:
            call(*values)
        self.assertIs(type(caught.exception), expected[0], (call, values))
        told = list(vars(caught.exception).values())
        self.assertEqual([type(field) for field in told], [type(field) for field in expected[1:]], (call, values))
        self.assertEqual(told, list(expected[1:]), (call, values))

    def check_call(self, name, call, parameters):
        good = good_values(name, parameters)
        wrong = [wrong_values(name, parameter) for parameter in parameters]
        for at, values in enumerate(wrong):
            for value, expected in values:
                self.check_refused(call, good[:at] + [value] + good[at + 1:], expected)
        for at, far in itertools.combinations(range(len(parameters)), 2):
            for value, expected in wrong[at]:
                for far_value, _ in wrong[far][::4]:
                    values = list(good)
                    values[at] = value
                    values[far] = far_value
                    self.check_refused(call, values, expected)

    def test_wrong_arguments_and_two_at_once(self):
        for module, name, parameters in CALLS:
            self.check_call(name, getattr(importlib.import_module("hookedcords." + module), name), parameters)

    def test_wrong_arguments_of_methods(self):
        for name, parameters in METHODS:
            self.check_call(name, method_of(name), parameters)

    def test_things_that_say_to_be_equal_to_all(self):
        class Equal:
            def __eq__(self, other):
                return True

        one = Equal()
        calls = [
            (figure_of, (2, ((one, 0),)), (BadRow, 0)), (figure_of, (2, (("cut", one),)), (BadRow, 0)),
            (figure_of, (2, (one,)), (BadRow, 0)), (figure_of, (2, one), (BadRow, None)),
            (family_deeds, (2, (one,)), (BadFamily, 0)), (family_deeds, (2, one), (BadFamily, None)),
            (straight, (one,), (BadCords, one)), (rank_of, (1, (one, one)), (BadFigure, 0)),
            (check_on, (1, ("cut",), (0, 0), (0, 0), (one, (), ())), (BadPaper, "form")),
            (check_on, (1, ("cut",), (0, 0), (0, 0), ("rows", (one,), ())), (BadPaper, "rows")),
            (check_on, (1, ("cut",), (0, 0), (0, 1), ("closed", (one,))), (BadPaper, "closed")),
            (check_turn_paper, (1, ("cut",), (0, 0), (0, 0), (one, ())), (BadPaper, "form")),
            (check_turn_paper, (1, ("cut",), (0, 0), (0, 0), ("steps", (one,))), (BadPaper, "steps")),
            (check_turn_paper, (1, ("cut",), (0, 0), (0, 1), ("closed", (one,))), (BadPaper, "closed")),
            (check_follow, (1, ("cut",), (), (0, 0), (0, 0), (one, ())), (BadPaper, "form")),
            (check_follow, (1, ("cut",), (), (0, 0), (0, 0), ("steps", (one,))), (BadPaper, "form")),
            (check_follow, (1, ("cut",), (), (0, 0), (0, 1), ("lots", (0, one))), (BadPaper, "form")),
            (check_flattening, (1, (0, 0), (one, one, one)), (BadPaper, "row")),
            (need_half, (1, (one, one)), (BadFigure, "pieces")), (need_half, (1, ((0,), (one,))), (BadFigure, "open")),
            (need_book, (1, ("cut",), (one,)), (BadBook, 0)), (need_book, (1, ("cut",), one), (BadBook, None)),
            (lets, (1, (0, 0), 2, (one,), (0,)), (BadColours, 0)),
            (number_of_way, (1, (("cut", 0),) * 2, 2, (0,), (0,), ((one,),)), (BadColours, "way")),
            (need_sum, (1, one), (BadSum, None)), (need_sum, (1, (one,)), (BadSum, 0)),
            (need_sum, (1, ((one, 1),)), (BadSum, 0)), (need_sum, (1, (((0, 0), one),)), (BadSum, 0)),
            (need_gapped, (1, one), (BadRow, None)), (need_gapped, (1, (one,)), (BadRow, 0)),
            (need_gapped, (1, ((one,),)), (BadRow, 0)), (need_seen, (1, (), ((0, 0, 1, one),)), (BadSeen, 0)),
            (need_seen, (1, (), ((0, 0, one, True),)), (BadSeen, 0)), (need_seen, (1, (), (one,)), (BadSeen, 0)),
            (answers_of, (1, (), (), (one,)), (BadBook, 0)), (answers_of, (1, (), (), one), (BadBook, None)),
            (need_plan, (1, (), ((0, 0, 1),), one), (BadPaper, "plan")),
            (need_plan, (1, (), ((0, 0, 1),), (one, (), ())), (BadPaper, "plan")),
            (need_plan, (1, (), ((0, 0, 1),), (0, one, ())), (BadPaper, "plan")),
            (check_bearing, (1, (), (), (one, ())), (BadPaper, "form")),
            (check_bearing, (1, (), (), ("closed", (one,))), (BadPaper, "closed")),
            (check_bearing, (1, (), (), ("closed", one)), (BadPaper, "closed")),
            (check_bearing, (1, (), (), ("row", one)), (BadPaper, "row")),
            (read_row, (1, one), (BadWords, None, None)), (fresh_weave().is_alike, (one,), (BadName, one)),
        ]
        for call, values, expected in calls:
            self.check_refused(call, list(values), expected)

    def test_all_wrong_at_once(self):
        for module, name, parameters in CALLS:
            call = getattr(importlib.import_module("hookedcords." + module), name)
            if parameters:
                first = {"text": (BadWords, None, None), "family": (BadFamily, None)}.get(parameters[0], (BadCords, None))
                self.check_refused(call, [None] * len(parameters), first)

    def test_by_position_and_by_name(self):
        calls = [
            (name, getattr(importlib.import_module("hookedcords." + module), name), parameters)
            for module, name, parameters in CALLS if name not in MAKERS
        ]
        calls += [(name, method_of(name), parameters) for name, parameters in METHODS if name not in OBJECTS]
        for name, call, parameters in calls:
            good = good_values(name, parameters)
            words = [one.strip("*") for one in parameters]
            told = call(*good)
            self.assertTrue(is_plain(told), name)
            self.assertEqual(call(**dict(zip(words, good))), told)
            self.assertEqual(call(**dict(list(zip(words, good))[::-1])), told)

    def test_objects_by_name(self):
        self.assertEqual(Ladder(cords=2, family=("hook",)).by_length(), (1, 1))
        weave = Weave(cords=2)
        self.assertIs(Guide(goal=(0, 0, 1, 1), weave=weave, family=("hook",)).weave, weave)
        self.assertEqual(weave.copy(), weave)
        self.assertEqual(weave.trial().__enter__(), weave)

    def test_what_stands_behind_a_bare_star(self):
        for call in (fresh_weave().undo, fresh_weave().again):
            with self.assertRaises(TypeError):
                call(1)

    def test_refusals_of_a_guide(self):
        good = (fresh_weave(), ("hook",), (0, 0, 1, 1))
        for value, number in FAMILIES:
            for goal in (good[2], None, (0, 0, 0, 2)):
                self.check_refused(Guide, [good[0], value, goal], (BadFamily, number))
        for value, place in FIGURES:
            for family in (("hook",), ("cut", "hook", "join", "swap")):
                self.check_refused(Guide, [good[0], family, value], (BadFigure, place))
        for family in (("cut", "join"), ("cut", "hook", "join", "swap"), ("cut", "hook", "swap")):
            self.check_refused(Guide, [Weave(5), family, (0,) * 10], (TooGreat, 5000))
            self.check_refused(Guide, [Weave(5), family, (0,) * 9], (BadFigure, None))

    def test_an_object_is_equal_to_itself_alone(self):
        one, other = Ladder(2, ("hook",)), Ladder(2, ("hook",))
        self.assertTrue(one == one and one != other and not one == other and one != 0)
        self.assertEqual((one.cords, one.family), (2, ("hook",)))
        with self.assertRaises(TypeError):
            one + other
