"""Sheets: [62], [63], claims judged by points, graphs and going through all, and the first wrong word of a sheet."""

import itertools
import random
import unittest

from hookedcords.errors import BadWords, TooGreat
from hookedcords.sheets import judged, sheet_told
from hookedcords.texts import book_text, family_text, figure_text, read_book, read_family, read_figure, read_row, row_text
from tests import brute
from tests.brute import told_of
from tests.test_books import lots_by_hand
from tests.test_closed import rings_by_hand

SORTS = ("row", "figure", "family", "book")
# The claims as the document writes them: names are of rows, figures, families or books, N and M are numbers.
CLAIMS = {
    "makes": "R F", "leaves": "R N", "alike": "R R", "upon": "F F F N", "rank": "F N", "belongs": "U F",
    "fewest": "U F L", "down": "U F F", "round": "F N N", "partner": "F F", "rings": "F N", "lets": "F Q N",
    "follows": "U B F F",
}
NAMES = {"R": "row", "F": "figure", "U": "family", "B": "book"}
ALL = ("cut", "hook", "join", "swap")


def text_of(cords, sort, thing):
    if sort == "row":
        return row_text(cords, thing)
    if sort == "figure":
        return figure_text(cords, thing)
    return family_text(thing) if sort == "family" else book_text(cords, thing)


def told_line(cords, sort, name, thing):
    return f"{sort} {name} {text_of(cords, sort, thing)}"


def first_and_step(cords, figure):
    powers = [tuple(range(cords)) * 2]
    while len(set(powers)) == len(powers):
        powers.append(brute.upon(cords, powers[-1], figure))
    first = powers.index(powers[-1])
    return first, len(powers) - 1 - first


def pairs_let(figure, many):
    """How many colourings of all points have one colour in each piece."""
    if many ** len(figure) > 5000:
        return many ** len(set(figure))
    return sum(
        len(set(zip(figure, colours))) == len(set(figure))
        for colours in itertools.product(range(many), repeat=len(figure))
    )


def is_so(cords, word, told):
    """Whether a claim on things is so, by the document's words."""
    upon = brute.upon
    if word == "makes":
        return brute.row_told(cords, told[0])[0] == told[1]
    if word == "leaves":
        return brute.row_told(cords, told[0])[1] == told[1]
    if word == "alike":
        return brute.row_told(cords, told[0])[0] == brute.row_told(cords, told[1])[0]
    if word == "upon":
        return brute.put(cords, told[0], told[1]) == (told[2], told[3])
    if word == "rank":
        return len(brute.through(cords, told[0])) == told[1]
    if word == "rings":
        return len(rings_by_hand(cords, told[0])) == told[1]
    if word == "lets":
        return pairs_let(told[0], told[1]) == told[2]
    if word == "round":
        return first_and_step(cords, told[0]) == (told[1], told[2])
    if word == "partner":
        one, two = told
        return upon(cords, one, two, one) == one and upon(cords, two, one, two) == two
    figures = brute.figures_of(cords, told[0])
    if word == "belongs":
        return told[1] in figures
    if word == "fewest":
        return brute.closure(cords, told[0]).get(told[1]) == told[2]
    if word == "down":
        if told[1] not in figures or told[2] not in figures:
            return False
        return any(upon(cords, told[1], one) == told[2] for one in figures)
    family, book, figure, other = told
    if not {figure, other, *itertools.chain(*book)} <= set(figures):
        return False
    lots = lots_by_hand(cords, family, book)
    return lots[figures.index(figure)] == lots[figures.index(other)]


class Drawn:
    """A drawn sheet of up to three cords: its lines, what its names tell, and its claims."""

    def __init__(self, seed):
        self.source = source = random.Random(seed)
        self.cords = cords = source.choice((1, 2, 2, 3))
        self.families = [family for family in brute.FAMILIES if len(brute.figures_of(cords, family)) <= 16]
        self.things = {sort: {} for sort in SORTS}
        self.lines = [f"cords {cords}"]
        for _ in range(source.randint(0, 14)):
            sort = source.choice(SORTS + ("figure", "row"))
            name = source.choice(("a", "b", "abcdefgh", "cords", "row", "none"))
            thing = self.thing(sort)
            self.things[sort][name] = thing
            self.lines.append(told_line(cords, sort, name, thing))
        self.claims = [self.claim() for _ in range(source.randint(0, 25))]
        self.lines += [" ".join((word,) + tuple(map(str, told))) for word, told in self.claims]

    def figure(self):
        family = self.source.choice(self.families + [ALL])
        return self.source.choice(brute.figures_of(self.cords, family))

    def thing(self, sort):
        if sort == "row":
            return brute.some_rows(self.cords, 1, 6, seed=self.source.randrange(10 ** 6))[0]
        if sort == "figure":
            return self.figure()
        if sort == "family":
            return self.source.choice(self.families)
        figures = brute.figures_of(self.cords, self.source.choice(self.families))
        return tuple((self.source.choice(figures), self.source.choice(figures)) for _ in range(self.source.randint(0, 3)))

    def claim(self):
        word = self.source.choice(list(CLAIMS))
        told = []
        for kind in CLAIMS[word].split():
            if kind in NAMES:
                known = list(self.things[NAMES[kind]])
                told.append(self.source.choice(known if known and self.source.random() < 0.95 else ["zz", "a"]))
            elif kind == "Q":
                told.append(self.source.choice((1, 2, 3, 10 ** 6)))
            elif kind == "L" and self.source.random() < 0.3:
                told.append("none")
            else:
                told.append(self.source.randint(0, 3))
        return word, self.made_right(word, told)

    def made_right(self, word, told):
        """The claim, often with the numbers that are right."""
        things = self.resolved(word, told)
        if things is None or self.source.random() < 0.4:
            return told
        if word == "lets":
            return told[:2] + [pairs_let(things[0], told[1])]
        if word == "round":
            return told[:1] + list(first_and_step(self.cords, things[0]))
        if "N" in CLAIMS[word]:
            for number in range(8):
                if is_so(self.cords, word, things[:-1] + [number]):
                    return told[:-1] + [number]
        if word == "fewest":
            length = brute.closure(self.cords, things[0]).get(things[1])
            return told[:2] + ["none" if length is None else length]
        return told

    def resolved(self, word, told):
        """What the words of a claim tell; None if a name is missing."""
        things = []
        for kind, one in zip(CLAIMS[word].split(), told):
            if kind in NAMES:
                if one not in self.things[NAMES[kind]]:
                    return None
                one = self.things[NAMES[kind]][one]
            things.append(None if one == "none" else one)
        return things

    def expected(self):
        found = []
        for word, told in self.claims:
            things = self.resolved(word, told)
            found.append(things is not None and is_so(self.cords, word, things))
        return tuple(found)


class Sheets(unittest.TestCase):
    def test_drawn_sheets(self):
        both = {word: set() for word in CLAIMS}
        for seed in range(250):
            drawn = Drawn(seed)
            text = "\n".join(drawn.lines)
            things = tuple(tuple(sorted(drawn.things[sort].items())) for sort in SORTS)
            self.assertEqual(sheet_told(text), (drawn.cords,) + things)
            told = judged(text)
            self.assertEqual(told, drawn.expected(), text)
            for (word, _), truth in zip(drawn.claims, told):
                self.assertIs(type(truth), bool)
                both[word].add(truth)
        self.assertEqual(set(map(len, both.values())), {2}, both)

    def test_sheets_without_lines_and_without_claims(self):
        for cords in (1, 2, 3, 4, 5):
            self.assertEqual(sheet_told(f"cords {cords}"), (cords, (), (), (), ()))
            self.assertEqual(judged(f"cords {cords}"), ())
        self.assertEqual(judged("cords 2\nrow a H0"), ())

    def test_the_last_line_with_a_name_counts(self):
        text = "cords 2\nrow a H0\nfigure a t0 b0 / t1 b1\nrow a S0\nfamily a cut\nbook a none\nrow b -\nfamily a hook"
        told = (2, (("a", (("swap", 0),)), ("b", ())), (("a", (0, 1, 0, 1)),), (("a", ("hook",)),), (("a", ()),))
        self.assertEqual(sheet_told(text), told)
        self.assertEqual(judged(text + "\nmakes b a\nmakes a a\nbelongs a a\nleaves a 0"), (True, False, True, True))

    def test_things_are_told_in_the_order_of_their_names(self):
        text = "cords 1\nrow b -\nrow ab -\nrow a C0\nrow z -\nrow aa -"
        self.assertEqual([name for name, _ in sheet_told(text)[1]], ["a", "aa", "ab", "b", "z"])

    def test_names_that_are_missing(self):
        lines = ["cords 2", "row r H0", "figure f t0 t1 / b0 b1", "family u hook", "book b none"]
        for word, kinds in CLAIMS.items():
            good = {"R": "r", "F": "f", "U": "u", "B": "b", "N": "1", "L": "1", "Q": "1"}
            told = [good[kind] for kind in kinds.split()]
            for at, kind in enumerate(kinds.split()):
                if kind in NAMES:
                    for name in ("x", {"r": "f", "f": "r", "u": "b", "b": "u"}[told[at]]):
                        claim = " ".join([word] + told[:at] + [name] + told[at + 1:])
                        self.assertEqual(judged("\n".join(lines + [claim])), (False,))

    def test_words_of_claims_as_names(self):
        text = "cords 1\nrow makes C0\nfigure none t0 / b0\nfamily cut cut\nmakes makes none\nfewest cut none 1"
        self.assertEqual(judged(text), (True, True))

    def test_great_numbers(self):
        figure = "figure f t0 / t1 / t2 / t3 / t4 / b0 / b1 / b2 / b3 / b4"
        for number, truth in ((10 ** 60, True), (10 ** 60 + 1, False), (10 ** 999, False)):
            self.assertEqual(judged(f"cords 5\n{figure}\nlets f 1000000 {number}"), (truth,))
        self.assertEqual(judged("cords 5\n" + figure + "\nrank f " + "9" * 1000), (False,))
        told = told_of(judged, "cords 5\n" + figure + "\nrank f " + "9" * 1001)
        self.assertEqual(told, (BadWords, (2, 2)))


class TooGreats(unittest.TestCase):
    LINES = (
        "cords 5", "figure s t0 b0 / t1 b1 / t2 b2 / t3 b3 / t4 b4", "figure c t0 b1 / t1 b0 / t2 b2 / t3 b3 / t4 b4",
        "figure k t0 b2 / t1 b1 / t2 b0 / t3 b4 / t4 b3", "family all cut hook join swap", "family flat cut join",
        "family w cut swap", "family e swap", "book n none",
        "book b " + " = ".join(["t0 b1 / t1 b0 / t2 b2 / t3 b3 / t4 b4"] * 2),
    )

    def judge(self, *claims):
        return told_of(judged, "\n".join(self.LINES + claims))

    def test_fewest(self):
        great = (TooGreat, (5000,))
        self.assertEqual(self.judge("fewest all s 0"), great)
        self.assertEqual(self.judge("fewest all s none"), great)
        self.assertEqual(self.judge("fewest flat s none"), great)
        self.assertEqual(self.judge("fewest flat c none", "fewest flat c 1"), (True, False))
        self.assertEqual(self.judge("fewest e k 4", "fewest e k 3", "fewest w c 1"), (True, False, True))
        self.assertEqual(self.judge("fewest all x 0", "fewest x s none"), (False, False))

    def test_follows(self):
        great = (TooGreat, (1000,))
        self.assertEqual(self.judge("follows w n s c"), great)
        self.assertEqual(self.judge("follows all n s s"), great)
        self.assertEqual(self.judge("follows flat n s s"), great)
        self.assertEqual(self.judge("follows flat n s c"), (False,))
        self.assertEqual(self.judge("follows flat b s s"), (False,))
        self.assertEqual(self.judge("follows w b s s"), great)
        self.assertEqual(self.judge("follows w x s s", "follows w n s x"), (False, False))
        self.assertEqual(self.judge("follows e n s s", "follows e n s c", "follows e b s c"), (True, False, False))

    def test_the_first_claim_that_is_too_great(self):
        self.assertEqual(self.judge("makes x s", "follows w n s c", "fewest all s 0"), (TooGreat, (1000,)))
        self.assertEqual(self.judge("fewest all s 0", "follows w n s c"), (TooGreat, (5000,)))

    def test_all_lines_are_read_ahead_of_it(self):
        self.assertEqual(self.judge("fewest all s 0", "follows w n s"), (BadWords, (11, 4)))
        self.assertEqual(sheet_told("\n".join(self.LINES + ("fewest all s 0",)))[0], 5)

    def test_nothing_else_is_too_great(self):
        claims = ("belongs all s", "down all s c", "down flat s s", "belongs flat c", "round k 0 2", "partner k k")
        self.assertEqual(self.judge(*claims), (True, True, True, False, True, True))
        self.assertEqual(self.judge("rings k 3", "upon c c s 0", "rank k 5"), (True, True, True))


def number_right(word, least=0, most=None):
    if not word or not set(word) <= set("0123456789") or (word[0] == "0" and word != "0") or len(word) > 1000:
        return False
    return int(word) >= least and (most is None or int(word) <= most)


def name_right(word):
    return 1 <= len(word) <= 8 and set(word) <= set("abcdefghijklmnopqrstuvwxyz")


def kind_right(kind, word):
    if kind in NAMES:
        return name_right(word)
    if kind == "L" and word == "none":
        return True
    return number_right(word, *(1, 10 ** 6) if kind == "Q" else ())


def wrong_in_line(words, allowed, cords):
    """The number of the first wrong word of a line behind the first one, None if there is none."""
    if words[0] not in allowed:
        return 0
    if words[0] in SORTS:
        if len(words) == 1 or not name_right(words[1]):
            return 1
        if len(words) == 2:
            return 2
        rest = " ".join(words[2:])
        calls = {"row": read_row, "figure": read_figure, "book": read_book}
        told = told_of(read_family, rest) if words[0] == "family" else told_of(calls[words[0]], cords, rest)
        return told[1][1] + 2 if told and told[0] is BadWords else None
    kinds = CLAIMS[words[0]].split()
    for at, kind in enumerate(kinds):
        if at + 1 == len(words) or not kind_right(kind, words[at + 1]):
            return at + 1
    return len(kinds) + 1 if len(words) > len(kinds) + 1 else None


def first_wrong(text):
    """The pair of the line and the word of the first wrong word of a sheet, None if there is none."""
    lines = [line.split(" ") for line in text.split("\n")]
    head = lines[0]
    if head[0] != "cords":
        return 0, 0
    if len(head) == 1 or head[1] not in ("1", "2", "3", "4", "5"):
        return 0, 1
    if len(head) > 2:
        return 0, 2
    allowed = list(SORTS) + list(CLAIMS)
    for number, words in enumerate(lines[1:], 1):
        wrong = wrong_in_line(words, allowed, int(head[1]))
        if wrong is not None:
            return number, wrong
        if words[0] in CLAIMS:
            allowed = list(CLAIMS)
    return None


class Reading(unittest.TestCase):
    def test_changed_sheets(self):
        wrong = {}
        for seed in range(900):
            drawn = Drawn(1000 + seed)
            source = drawn.source
            lines = [line.split(" ") for line in drawn.lines[:1] + source.sample(drawn.lines[1:], len(drawn.lines) - 1)[:4]]
            if source.random() < 0.7:
                lines = [line.split(" ") for line in drawn.lines]
            vocabulary = ["", "a", "abcdefghi", "A", "0", "1", "01", "none", "cords", "6", "-1", "H0", "/", "1000001"]
            for _ in range(source.randint(0, 2)):
                words = source.choice(lines)
                at = source.randrange(len(words) + 1)
                kind = source.randrange(4)
                if kind == 0:
                    words.insert(at, source.choice(vocabulary + list(CLAIMS)))
                if kind == 1:
                    words[at % len(words)] = source.choice(vocabulary + list(CLAIMS) + list(SORTS))
                if kind == 2 and at > 0:
                    del words[at:]
                if kind == 3:
                    lines.insert(source.randrange(len(lines) + 1), source.choice([[""], ["cords", "2"], ["alike", "a", "a"]]))
            text = "\n".join(" ".join(words) for words in lines)
            expected = first_wrong(text)
            wrong[expected] = wrong.get(expected, 0) + 1
            if expected is None:
                self.assertEqual(len(sheet_told(text)), 5)
                self.assertEqual(len(judged(text)), sum(words[0] in CLAIMS for words in lines))
            else:
                self.assertEqual(told_of(sheet_told, text), (BadWords, expected), text)
                self.assertEqual(told_of(judged, text), (BadWords, expected), text)
        self.assertGreater(len(wrong), 40)
        self.assertGreater(wrong[None], 100)

    def test_lines_word_by_word(self):
        head = "cords 2\nrow r H0\nfigure f t0 t1 / b0 b1\n"
        for line, word in [
            ("", 0), (" ", 0), ("Row r -", 0), ("cords 2", 0), ("row", 1), ("row ", 1), ("row abcdefghi -", 1),
            ("row a", 2), ("row a ", 2), ("row a - -", 3), ("row a H0 H1", 3), ("row A -", 1), ("row a1 -", 1),
            ("figure f t0", 3), ("figure f t1", 2), ("family u", 2), ("family u cut cut", 3), ("family u cut ", 3),
            ("book b none none", 3), ("book b t0 t1 b0 b1", 6), ("makes", 1), ("makes r", 2), ("makes r f ", 3),
            ("makes r f f", 3), ("leaves r none", 2), ("leaves r 00", 2), ("leaves r -1", 2), ("leaves r +1", 2),
            ("leaves r 1.0", 2), ("fewest u f None", 3), ("fewest u f", 3), ("fewest none none none 1", 4),
            ("lets f 0 0", 2), ("lets f 1000001 1", 2), ("lets f 1000000 none", 3), ("round f 0", 3), ("rank f", 2),
            ("follows u b f", 4), ("upon f f f none", 4), ("belongs u", 2), ("says b b", 0), ("partner f  f", 2),
            ("alike r r r", 3), ("rings f " + "1" * 1001, 2), ("down u f", 3), ("rings  1", 1), ("makes r\tf", 1),
        ]:
            self.assertEqual(told_of(sheet_told, head + line), (BadWords, (3, word)), line)
            self.assertEqual(told_of(judged, head + line + "\nrow"), (BadWords, (3, word)), line)

    def test_no_line_of_a_thing_behind_a_claim(self):
        for sort in SORTS:
            self.assertEqual(told_of(sheet_told, f"cords 1\nalike a a\n{sort} b ?"), (BadWords, (2, 0)))
            self.assertEqual(told_of(judged, f"cords 1\nrow a C0\nalike a a\nalike a a\n{sort}"), (BadWords, (4, 0)))

    def test_first_lines(self):
        for text, word in [("", 0), ("cords", 1), ("cords 0", 1), ("cords 6", 1), ("cords 02", 1), ("cords 2 ", 2),
                           ("cords  2", 1), ("row a -", 0), (" cords 2", 0), ("cords two", 1), ("cords 2 2", 2)]:
            self.assertEqual(told_of(sheet_told, text), (BadWords, (0, word)))
            self.assertEqual(told_of(judged, text + "\n?"), (BadWords, (0, word)))
        self.assertEqual(told_of(judged, "cords 2\n"), (BadWords, (1, 0)))
        self.assertEqual(told_of(judged, "cords 2\nrow a -\n\nrow b -"), (BadWords, (2, 0)))

    def test_places_and_points_of_these_cords(self):
        for cords in (1, 2, 3, 4, 5):
            self.assertEqual(told_of(sheet_told, f"cords {cords}\nrow a C{cords - 1} C{cords}"), (BadWords, (1, 3)))
            straight = " / ".join(f"t{place} b{place}" for place in range(cords))
            self.assertEqual(len(sheet_told(f"cords {cords}\nfigure a {straight}")[2]), 1)
            told = told_of(sheet_told, f"cords {cords}\nfigure a {straight} / t{cords}")
            self.assertEqual(told, (BadWords, (1, 2 + len(straight.split(" ")))))

    def test_what_is_no_string(self):
        for value in [None, 7, True, b"cords 2", ["cords 2"], ("cords 2",), {}, 3.5]:
            self.assertEqual(told_of(sheet_told, value), (BadWords, (None, None)))
            self.assertEqual(told_of(judged, value), (BadWords, (None, None)))
