"""A desk: [66], against another desk that is told by the course of its rows, and lines that are answered with "no"."""

import random
import re
import unittest

from hookedcords.desk import Desk
from hookedcords.guide import Guide
from hookedcords.live import Weave
from tests import brute
from tests.test_guide import least_rows
from tests.test_live import Model, stands
from tests.test_texts import figure_words

ALL = ("cut", "hook", "join", "swap")
LETTERS = {"C": "cut", "H": "hook", "J": "join", "S": "swap"}
STRAIGHT = {1: "t0 b0", 2: "t0 b0 / t1 b1", 3: "t0 b0 / t1 b1 / t2 b2"}


def read_row(cords, text):
    """The row with this text, or None."""
    if text == "-":
        return ()
    row = []
    for word in text.split(" "):
        if not re.fullmatch(r"[CHJS][0-4]", word) or (LETTERS[word[0]], int(word[1])) not in brute.deeds_of(cords):
            return None
        row.append((LETTERS[word[0]], int(word[1])))
    return tuple(row) if len(row) <= 40 else None


def row_text(row):
    return " ".join(word[0].upper() + str(place) for word, place in row) or "-"


class Other:
    """Answers lines as a desk does, on up to three cords."""

    def __init__(self):
        self.model = None
        self.family = ALL
        self.guide = None

    def say(self, line):
        if type(line) is not str:
            return "no"
        found = re.fullmatch(r"weave ([1-5])", line)
        if found:
            self.model, self.family, self.guide = Model(int(found[1])), ALL, None
            return "done"
        if self.model is None:
            return "no"
        for word in ("row", "guide", "step", "look", "mark", "family"):
            told = getattr(self, "say_" + word)(line)
            if told is not None:
                return told
        return "no"

    def step(self, row):
        return "no" if self.model.step(row) else "done"

    def say_row(self, line):
        found = re.fullmatch(r"(above )?(.*)", line)
        row = read_row(self.model.cords, found[2]) if found else None
        if row is None:
            return None
        return self.step(row + self.model.row if found[1] else self.model.row + row)

    def say_step(self, line):
        if line == "turn":
            return self.step(self.model.row[::-1])
        found = re.fullmatch(r"(back|again)( ([1-9][0-9]*))?", line)
        if found:
            many = int(found[3] or 1) * (1 if found[1] == "again" else -1)
            return "nothing" if self.model.move(many) else "done"
        return None

    def say_look(self, line):
        cords = self.model.cords
        figure, left = brute.row_told(cords, self.model.row)
        if line in ("row", "figure", "leftovers"):
            return {"row": row_text(self.model.row), "figure": " ".join(figure_words(cords, figure)), "leftovers": str(left)}[line]
        points = [f"t{place}" for place in range(cords)] + [f"b{place}" for place in range(cords)]
        for point, word in enumerate(points):
            for far, far_word in enumerate(points):
                if line == f"hang {word} {far_word}":
                    return "yes" if figure[point] == figure[far] else "no"
        return None

    def say_mark(self, line):
        found = re.fullmatch(r"(mark|alike) ([a-z]{1,8})", line)
        if not found:
            return None
        if found[1] == "mark":
            self.model.marks[found[2]] = self.model.row
            return "done"
        if found[2] not in self.model.marks:
            return "no"
        rows = self.model.marks[found[2]], self.model.row
        return "yes" if len({brute.row_told(self.model.cords, row)[0] for row in rows}) == 1 else "no"

    def say_family(self, line):
        for family in brute.FAMILIES:
            if line == "family " + " ".join(family):
                self.family = family
                return "done"
        for figure in brute.all_figures(self.model.cords):
            if line == "goal " + " ".join(figure_words(self.model.cords, figure)):
                self.guide = self.family, figure
                return "done"
        return None

    def say_guide(self, line):
        if line not in ("left", "due", "go", "stop") or self.guide is None:
            return None
        if line == "stop":
            self.guide = None
            return "done"
        family, goal = self.guide
        row = least_rows(self.model.cords, family, brute.row_told(self.model.cords, self.model.row)[0]).get(goal)
        if row is None:
            return "never"
        if line == "left":
            return str(len(row))
        if line == "go" and row and self.model.step(self.model.row + row[:1]):
            return "no"
        return row_text(row[:1])


def drawn_line(source, cords, figures):
    """A drawn line, mostly a right one."""
    row = row_text(brute.some_rows(cords, 1, 5, seed=source.randrange(500))[0])
    figure = " ".join(figure_words(cords, source.choice(figures)))
    point = lambda: source.choice("tb") + str(source.randrange(cords))
    line = source.choice([
        row, row, "-", "above " + row, "turn", "back", "back", "back " + str(source.randint(0, 4)), "again",
        "again " + str(source.randint(1, 3)), "row", "figure", "leftovers", f"hang {point()} {point()}",
        f"hang {point()} {point()}", "mark " + source.choice("ab"), "alike " + source.choice("abc"), "mark abcdefgh",
        "family " + " ".join(source.choice(brute.FAMILIES)), "goal " + figure, "goal " + figure, "left", "left", "due", "due",
        "go", "go", "go", source.choice(["stop", "go"]), source.choice([f"weave {source.randint(0, 3)}", "turn", "row"]),
    ])
    kind = source.random()
    if kind < 0.03:
        return source.choice([line + " ", " " + line, line + " x", line.replace(" ", "  "), line.upper(), line + "\n", ""])
    if kind < 0.05:
        return source.choice([None, 7, True, b"row", ["row"], ("row",), 3.5, "No", "done", "weave", "goal", "hang t0"])
    return line


class Desks(unittest.TestCase):
    def test_drawn_lines(self):
        answers = {}
        for seed in range(120):
            source = random.Random(seed)
            desk, other = Desk(), Other()
            cords = source.choice((1, 2, 2, 3))
            figures = brute.all_figures(cords)
            lines = [drawn_line(source, cords, figures) for _ in range(6)] if seed % 4 == 0 else []
            lines += [f"weave {cords}"] + [drawn_line(source, cords, figures) for _ in range(45)]
            for line in lines:
                told = desk.say(line)
                self.assertEqual(told, other.say(line), line)
                self.check_same(desk, other)
                answers[told] = answers.get(told, 0) + 1
        for word in ("done", "no", "yes", "nothing", "never", "-", "0", "1", "2"):
            self.assertGreater(answers.get(word, 0), 5, word)

    def check_same(self, desk, other):
        if other.model is None:
            self.assertIsNone(desk.weave)
            self.assertIsNone(desk.guide)
            return
        model = other.model
        rows = model.course[:model.at][::-1] + ["again"] + model.course[1:]
        self.assertEqual(stands(desk.weave), (model.cords, model.row, tuple(sorted(model.marks.items())), rows))
        if other.guide is None:
            self.assertIsNone(desk.guide)
        else:
            self.assertIs(desk.guide.weave, desk.weave)
            self.assertEqual((desk.guide.family, desk.guide.goal), other.guide)

    def test_a_desk_without_a_weave(self):
        desk = Desk()
        self.assertEqual((desk.weave, desk.guide), (None, None))
        for line in ["row", "figure", "-", "C0", "above -", "turn", "back", "again", "leftovers", "hang t0 t0", "mark a",
                     "alike a", "family cut", "goal t0 b0", "left", "due", "go", "stop", "weave", "weave 0", "weave 6", "",
                     "weave 2 ", "weave  2", "weave 02", "Weave 2", " weave 2", "weave 2\n", None, 2, ("weave 2",)]:
            self.assertEqual(desk.say(line), "no", line)
            self.assertEqual((desk.weave, desk.guide), (None, None))
        self.assertEqual(desk.say("weave 5"), "done")
        self.assertEqual(desk.weave.cords, 5)

    def test_a_desk_without_a_guide(self):
        desk = Desk()
        desk.say("weave 2")
        for line in ["left", "due", "go", "stop"]:
            self.assertEqual(desk.say(line), "no")
        self.assertEqual(desk.say("goal " + STRAIGHT[2]), "done")
        self.assertEqual([desk.say(line) for line in ("left", "due", "go", "stop", "stop", "left")],
                         ["0", "-", "-", "done", "no", "no"])

    def test_the_very_weave_and_guide(self):
        desk = Desk()
        desk.say("weave 2")
        weave = desk.weave
        self.assertIs(type(weave), Weave)
        desk.say("H0")
        self.assertIs(desk.weave, weave)
        self.assertEqual(weave.row, (("hook", 0),))
        weave.work((("swap", 0),))
        self.assertEqual(desk.say("row"), "H0 S0")
        desk.say("goal t0 t1 / b0 b1")
        guide = desk.guide
        self.assertIs(type(guide), Guide)
        self.assertIs(guide.weave, weave)
        self.assertEqual(desk.say("left"), "0")
        self.assertIs(desk.guide, guide)
        desk.say("goal t0 / t1 / b0 / b1")
        self.assertIsNot(desk.guide, guide)
        self.assertEqual(desk.say("weave 2"), "done")
        self.assertIsNot(desk.weave, weave)
        self.assertIsNone(desk.guide)

    def test_a_guide_keeps_its_family(self):
        desk = Desk()
        for line in ("weave 2", "family hook", "goal t0 t1 / b0 b1", "family cut"):
            self.assertEqual(desk.say(line), "done")
        self.assertEqual((desk.say("due"), desk.guide.family), ("H0", ("hook",)))
        self.assertEqual([desk.say("goal t0 / t1 / b0 / b1"), desk.say("left")], ["done", "2"])
        self.assertEqual([desk.say("goal t0 t1 / b0 b1"), desk.say("left")], ["done", "never"])
        self.assertEqual(desk.guide.family, ("cut",))

    def test_a_new_weave_has_the_family_of_all_words(self):
        desk = Desk()
        for line in ("weave 2", "family cut", "weave 2", "goal t0 t1 / b0 b1"):
            self.assertEqual(desk.say(line), "done")
        self.assertEqual((desk.guide.family, desk.say("left")), (ALL, "1"))

    def test_goals_that_are_too_great(self):
        desk = Desk()
        straight = " / ".join(f"t{place} b{place}" for place in range(5))
        self.assertEqual([desk.say(line) for line in ("weave 5", "goal " + straight)], ["done", "no"])
        self.assertIsNone(desk.guide)
        self.assertEqual([desk.say(line) for line in ("family swap", "goal " + straight, "left")], ["done", "done", "0"])
        guide = desk.guide
        self.assertEqual([desk.say(line) for line in ("family cut join", "goal " + straight)], ["done", "no"])
        self.assertIs(desk.guide, guide)

    def test_40_deeds_and_41(self):
        desk = Desk()
        desk.say("weave 1")
        self.assertEqual(desk.say(" ".join(["C0"] * 41)), "no")
        self.assertEqual(desk.say(" ".join(["C0"] * 40)), "done")
        for line in ("C0", "above C0", "above " + " ".join(["C0"] * 41)):
            self.assertEqual(desk.say(line), "no")
        self.assertEqual([desk.say(line) for line in ("-", "above -", "turn", "leftovers")], ["done"] * 3 + ["39"])
        self.assertEqual([desk.say(line) for line in ("back 4", "back", "back")], ["done", "nothing", "nothing"])
        for line in ("weave 2", " ".join(["H0"] * 40), "goal t0 t1 / b0 / b1"):
            self.assertEqual(desk.say(line), "done")
        self.assertEqual([desk.say(line) for line in ("due", "go", "left")], ["C0", "no", "1"])
        self.assertEqual(len(desk.weave), 40)

    def test_steps_back_and_again(self):
        desk = Desk()
        for line in ("weave 2", "H0", "-", "turn", "S0"):
            desk.say(line)
        for line in ("back 0", "back 01", "back -1", "back x", "back 1 1", "back ", "back 1 ", "again 0", "again +1",
                     "Back", "back " + "1" * 1001):
            self.assertEqual(desk.say(line), "no", line)
        for line in ("back 5", "back " + "9" * 1000, "again", "again 1"):
            self.assertEqual(desk.say(line), "nothing", line)
        self.assertEqual([desk.say(line) for line in ("back 4", "row", "back", "again 5", "again 4", "row", "again")],
                         ["done", "-", "nothing", "nothing", "done", "H0 S0", "nothing"])

    def test_what_is_answered_with_no(self):
        desk = Desk()
        for line in ("weave 2", "H0 C1", "mark a", "goal t0 t1 / b0 / b1"):
            self.assertEqual(desk.say(line), "done")
        before, guide = stands(desk.weave), desk.guide
        for line in ["", " ", "H0 ", " H0", "H0  C1", "H1", "C2", "h0", "- -", "above", "above ", "above H1", "above - -",
                     "turn ", "turn 1", "row ", "row 1", "figure 1", "leftovers 1", "hang", "hang t0", "hang t0 t2",
                     "hang t0 b0 b1", "hang t0 t1 t0", "hang t0 t0 ", "hang t0  b0", "hang T0 b0", "mark", "mark A", "mark abcdefghi", "mark a b", "mark ",
                     "alike", "alike b", "alike abcdefghi", "alike a ", "family", "family hook cut", "family cut cut",
                     "family ", "goal", "goal t0", "goal t1", "goal t0 t1 / b0 / b1 /", "goal t0 b0", "left ", "left 1",
                     "due due", "go 1", "stop ", "stop stop", "weave", "weave 7", "weave two", "H0\n", "row\nrow", "done",
                     "no", "say row", "word", "None", "copy", "trial", None, 1, True, b"row", [], ("row",), {}, object()]:
            self.assertEqual(desk.say(line), "no", line)
            self.assertEqual(stands(desk.weave), before)
            self.assertIs(desk.guide, guide)

    def test_points(self):
        desk = Desk()
        desk.say("weave 2")
        told = [desk.say(line) for line in ("hang t0 b0", "hang b0 t0", "hang t0 t0", "hang t0 t1", "hang b1 b0")]
        self.assertEqual(told, ["yes", "yes", "yes", "no", "no"])

    def test_never(self):
        desk = Desk()
        for line in ("weave 2", "C0", "goal " + STRAIGHT[2]):
            self.assertEqual(desk.say(line), "done")
        self.assertEqual([desk.say(line) for line in ("left", "due", "go", "row")], ["never", "never", "never", "C0"])
        self.assertEqual([desk.say(line) for line in ("back", "left", "due", "go")], ["done", "0", "-", "-"])

    def test_answers_are_plain_strings(self):
        desk = Desk()
        for line in ("weave 3", "H0 H1", "row", "figure", "leftovers", "back 9", None, "goal " + STRAIGHT[3], "left", "go"):
            self.assertIs(type(desk.say(line)), str)

    def test_operators_that_are_not_described(self):
        desk = Desk()
        self.assertTrue(desk == desk and desk != Desk())
        for call in (lambda: desk + desk, lambda: desk < desk, lambda: len(desk)):
            with self.assertRaises(TypeError):
                call()
