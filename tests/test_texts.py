"""Texts and how they are read: [60], [61], the first wrong word by going through the beginnings of all texts."""

import itertools
import random
import unittest

from hookedcords.errors import BadBook, BadCords, BadFamily, BadFigure, BadRow, BadWords
from hookedcords.texts import (
    book_text, family_text, figure_text, read_book, read_family, read_figure, read_row, row_text,
)
from tests import brute
from tests.brute import told_of

ALL = ("cut", "hook", "join", "swap")
STRAIGHT, CUTS = (0, 0), (0, 1)


def point_word(cords, point):
    return f"t{point}" if point < cords else f"b{point - cords}"


def figure_words(cords, figure):
    words = []
    for piece in brute.pieces(figure):
        words += ["/"] * bool(words) + [point_word(cords, point) for point in piece]
    return words


def first_wrong(words, texts):
    """The number of the first word that cannot stand there, or None, by all texts as lists of words."""
    for number in range(1, len(words) + 1):
        if not any(text[:number] == words[:number] for text in texts):
            return number - 1
    return None if words in texts else len(words)


def wrong_by_beginnings(words, begun, whole):
    """The same by a set of all beginnings, as tuples."""
    for number in range(1, len(words) + 1):
        if tuple(words[:number]) not in begun:
            return number - 1
    return None if tuple(words) in whole else len(words)


def changed(source, words, vocabulary):
    """The words with some of them changed, left out, put in, exchanged, or the end cut off."""
    words = list(words)
    for _ in range(source.randint(0, 3)):
        at = source.randrange(len(words) + 1)
        kind = source.randrange(5)
        if kind == 0:
            words.insert(at, source.choice(vocabulary))
        if kind == 1 and words:
            words[at % len(words)] = source.choice(vocabulary)
        if kind == 2 and words:
            del words[at % len(words)]
        if kind == 3:
            words = words[:at]
        if kind == 4 and len(words) > 1:
            far = source.randrange(len(words))
            words[at % len(words)], words[far] = words[far], words[at % len(words)]
    return words or [""]


class Texts(unittest.TestCase):
    def test_texts_there_and_back(self):
        for cords, figure in brute.many_figures():
            text = " ".join(figure_words(cords, figure))
            self.assertEqual(figure_text(cords, figure), text)
            self.assertEqual(read_figure(cords, text), figure)
        for cords in (1, 2, 3, 4, 5):
            for row in brute.some_rows(cords, 40, 40, seed=31) + [(), brute.some_rows(cords, 1, 1)[0]]:
                text = " ".join(word[0].upper() + str(place) for word, place in row) or "-"
                self.assertEqual(row_text(cords, row), text)
                self.assertEqual(read_row(cords, text), row)
        for family in brute.FAMILIES:
            self.assertEqual(family_text(family), " ".join(family))
            self.assertEqual(read_family(" ".join(family)), family)

    def test_texts_of_books(self):
        source = random.Random(1)
        for cords in (1, 2, 3, 5):
            figures = brute.some_figures(cords, 30)
            for many in (0, 1, 2, 5, 6):
                for _ in range(5):
                    book = tuple((source.choice(figures), source.choice(figures)) for _ in range(many))
                    text = " ; ".join(figure_text(cords, near) + " = " + figure_text(cords, far) for near, far in book)
                    self.assertEqual(book_text(cords, book), text or "none")
                    self.assertEqual(read_book(cords, text or "none"), book)

    def test_the_documents_texts(self):
        self.assertEqual(row_text(3, (("hook", 0), ("cut", 2))), "H0 C2")
        self.assertEqual(figure_text(2, (0, 1, 1, 0)), "t0 b1 / t1 b0")
        self.assertEqual(read_figure(2, "t0 b1 / t1 b0"), (0, 1, 1, 0))
        self.assertEqual(book_text(1, (((0, 0), (0, 1)), ((0, 1), (0, 1)))), "t0 b0 = t0 / b0 ; t0 / b0 = t0 / b0")

    def test_unlike_things_have_unlike_texts(self):
        for cords in (1, 2, 3):
            figures = brute.all_figures(cords)
            self.assertEqual(len({figure_text(cords, figure) for figure in figures}), len(figures))
            rows = list(brute.rows_up_to(cords, ALL, 3))
            self.assertEqual(len({row_text(cords, row) for row in rows}), len(rows))
        self.assertEqual(len({family_text(family) for family in brute.FAMILIES}), 15)
        pairs = list(itertools.product(brute.all_figures(1), repeat=2))
        books = [book for many in range(5) for book in itertools.product(pairs, repeat=many)]
        self.assertEqual(len({book_text(1, book) for book in books}), len(books))


class Reading(unittest.TestCase):
    def check_read(self, call, words, expected, value):
        told = told_of(call, " ".join(words))
        if expected is None:
            self.assertEqual(told, value(words))
        else:
            self.assertEqual(told, (BadWords, (0, expected)), words)

    def test_figures_by_the_beginnings_of_all_texts(self):
        source = random.Random(2)
        for cords in (1, 2, 3):
            figures = {tuple(figure_words(cords, figure)): figure for figure in brute.all_figures(cords)}
            begun = {text[:number] for text in figures for number in range(1, len(text) + 1)}
            vocabulary = [point_word(cords, point) for point in range(2 * cords)] * 2 + ["/"] * 3 + ["", "t9", "T0", "=", "t"]
            wrong = set()
            for text in source.choices(list(figures), k=1500):
                words = changed(source, text, vocabulary)
                expected = wrong_by_beginnings(words, begun, figures)
                wrong.add(expected)
                self.check_read(lambda told: read_figure(cords, told), words, expected, lambda told: figures[tuple(told)])
            self.assertGreaterEqual(len(wrong), 2 * cords + 2)

    def test_families_by_all_texts(self):
        texts = [list(family) for family in brute.FAMILIES]
        vocabulary = ["cut", "hook", "join", "swap", "", "Cut"]
        for many in (1, 2, 3, 4, 5):
            for words in itertools.product(vocabulary, repeat=many):
                words = list(words)
                self.check_read(read_family, words, first_wrong(words, texts), tuple)

    def test_books_of_one_cord_by_the_beginnings_of_all_texts(self):
        source = random.Random(3)
        figures = [["t0", "b0"], ["t0", "/", "b0"]]
        pairs = [near + ["="] + far for near in figures for far in figures]
        texts = [tuple(text) for text in self.joined(pairs)]
        whole = set(texts)
        begun = {text[:number] for text in texts for number in range(1, len(text) + 1)}
        vocabulary = ["t0", "b0", "/", "=", ";", "none", "", "t1"]
        read = {("t0", "b0"): STRAIGHT, ("t0", "/", "b0"): CUTS}

        def value(words):
            if words == ["none"]:
                return ()
            told = " ".join(words).split(" ; ")
            return tuple(tuple(read[tuple(one.split(" "))] for one in pair.split(" = ")) for pair in told)

        for text in source.choices(texts, k=2500):
            words = changed(source, text, vocabulary)
            if source.random() < 0.2:
                words = words + source.choice([[";"], ["=", "t0"], [";", "t0"], [""], ["none"]])
            self.check_read(lambda told: read_book(1, told), words, wrong_by_beginnings(words, begun, whole), value)

    def joined(self, pairs):
        texts = [["none"]]
        ahead = [[]]
        for _ in range(6):
            ahead = [one + [";"] * bool(one) + pair for one in ahead for pair in pairs]
            texts += ahead
        return texts

    def test_books_of_more_cords(self):
        one, two = "t0 b0 / t1 b1", "t0 / t1 / b0 / b1"
        pair = one + " = " + two
        self.assertEqual(read_book(2, pair), (((0, 1, 0, 1), (0, 1, 2, 3)),))
        self.assertEqual(len(read_book(2, " ; ".join([pair] * 6))), 6)
        long = " ; ".join([pair] * 7).split(" ")
        words = len(" ; ".join([pair] * 6).split(" "))
        self.assertEqual(told_of(read_book, 2, " ".join(long)), (BadWords, (0, words)))
        self.assertEqual(told_of(read_book, 2, pair + " ;"), (BadWords, (0, len(pair.split(" ")) + 1)))
        self.assertEqual(told_of(read_book, 2, one), (BadWords, (0, 5)))
        self.assertEqual(told_of(read_book, 2, one + " ; " + one), (BadWords, (0, 5)))
        self.assertEqual(told_of(read_book, 2, one + " = none"), (BadWords, (0, 6)))
        self.assertEqual(told_of(read_book, 2, pair + " = " + one), (BadWords, (0, len(pair.split(" ")))))

    def test_rows_word_by_word(self):
        source = random.Random(4)
        for cords in (1, 2, 3, 5):
            right = [word[0].upper() + str(place) for word, place in brute.deeds_of(cords)]
            vocabulary = right * 4 + ["-", "", "c0", "H", "0", "C5", "S4", "H00", "C0C0", "C-0", "C+0", "J0\n", "X0", "C 0"[:1]]
            for _ in range(600):
                words = [source.choice(vocabulary if source.random() < 0.2 else right) for _ in range(source.randint(1, 44))]
                words[0] = source.choice([words[0]] * 4 + ["-"])
                if words[0] == "-":
                    wrong = 1 if len(words) > 1 else None
                else:
                    wrong = next((at for at, word in enumerate(words) if word not in right or at == 40), None)
                expected = tuple(
                    ({"C": "cut", "H": "hook", "J": "join", "S": "swap"}[word[0]], int(word[1:])) for word in words
                ) if wrong is None and words != ["-"] else ()
                self.check_read(lambda told: read_row(cords, told), words, wrong, lambda told: expected)

    def test_rows_of_40_deeds_and_of_41(self):
        self.assertEqual(read_row(1, " ".join(["C0"] * 40)), (("cut", 0),) * 40)
        for last in ("C0", "", "H0", "-"):
            self.assertEqual(told_of(read_row, 1, " ".join(["C0"] * 40 + [last])), (BadWords, (0, 40)))
        self.assertEqual(told_of(read_row, 1, " ".join(["C0"] * 7 + ["H0"] + ["C0"] * 50)), (BadWords, (0, 7)))

    def test_blanks(self):
        for call in (lambda text: read_row(2, text), lambda text: read_figure(2, text), lambda text: read_book(2, text),
                     read_family):
            self.assertEqual(told_of(call, ""), (BadWords, (0, 0)))
            self.assertEqual(told_of(call, " "), (BadWords, (0, 0)))
            self.assertEqual(told_of(call, "\n"), (BadWords, (0, 0)))
        for text, word in [("H0  C1", 1), ("H0 ", 1), (" H0", 0), ("H0\nC1", 0), ("H0 C1\n", 1), ("- ", 1), ("-  ", 1)]:
            self.assertEqual(told_of(read_row, 2, text), (BadWords, (0, word)))
        for text, word in [("t0 t1  b0 b1", 2), ("t0 t1 b0 b1 ", 4), (" t0", 0), ("t0 t1 b0", 3), ("t0 t1 /", 3)]:
            self.assertEqual(told_of(read_figure, 2, text), (BadWords, (0, word)))

    def test_the_least_point_not_told_comes_first(self):
        for text, word in [("t1", 0), ("b0", 0), ("/", 0), ("t0 / b0", 2), ("t0 / t1 b0 / b1 /", 6), ("t0 b1 b0", 2),
                           ("t0 t0", 1), ("t0 t1 b0 b1 / b1", 4), ("t0 / / t1", 2), ("t0 b0 / t1", 4), ("t0 b0 t1", 2),
                           ("t0 b0 / t1 b0", 4), ("t0 t2", 1)]:
            self.assertEqual(told_of(read_figure, 2, text), (BadWords, (0, word)), text)

    def test_what_is_no_string(self):
        for value in [None, 7, True, b"H0", ["H0"], ("H0",), {}, 3.5]:
            for cords in (1, 5):
                for call in (read_row, read_figure, read_book):
                    self.assertEqual(told_of(call, cords, value), (BadWords, (None, None)))
            self.assertEqual(told_of(read_family, value), (BadWords, (None, None)))
        for call in (read_row, read_figure, read_book):
            self.assertEqual(told_of(call, 0, None), (BadCords, (0,)))
            self.assertEqual(told_of(call, True, "-"), (BadCords, (True,)))


class Refusals(unittest.TestCase):
    def test_what_has_no_text(self):
        self.assertEqual(told_of(row_text, 2, (("cut", 0),) * 41), (BadRow, (None,)))
        self.assertEqual(told_of(row_text, 2, (("cut", 0), ("hook", 1))), (BadRow, (1,)))
        self.assertEqual(told_of(figure_text, 2, (0, 0, 2, 1)), (BadFigure, (2,)))
        self.assertEqual(told_of(family_text, ("hook", "cut")), (BadFamily, (1,)))
        self.assertEqual(told_of(family_text, ()), (BadFamily, (None,)))
        self.assertEqual(told_of(book_text, 1, ((CUTS, STRAIGHT),) * 7), (BadBook, (None,)))
        self.assertEqual(told_of(book_text, 1, ((CUTS, STRAIGHT), (CUTS, (0, 2)))), (BadBook, (1,)))
        self.assertEqual(told_of(book_text, 2, ((CUTS, STRAIGHT),)), (BadBook, (0,)))
        self.assertEqual(told_of(book_text, 6, None), (BadCords, (6,)))
