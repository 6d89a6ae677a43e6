"""Texts of rows, figures, families and books, and how they are read."""

from hookedcords.checks import WORDS, need_cords, need_family, need_figure, need_row
from hookedcords.likeness import need_book_told
from hookedcords.putting import points_by_piece
from hookedcords.wording import (
    deed_word, point_words, take_book, take_family, take_last_figure, take_row, words_of_text,
)


def text_of_row(row):
    """The text of a row."""
    if row == ():
        return "-"
    return " ".join([deed_word(deed) for deed in row])


def text_of_figure(cords, figure):
    """The text of a figure."""
    names = point_words(cords)
    return " / ".join([" ".join([names[point] for point in points]) for points in points_by_piece(figure)])


def row_text(cords, row):
    """The text of the row."""
    need_cords(cords)
    need_row(cords, row)
    return text_of_row(row)


def figure_text(cords, figure):
    """The text of the figure."""
    need_cords(cords)
    need_figure(cords, figure)
    return text_of_figure(cords, figure)


def family_text(family):
    """The text of the family."""
    need_family(family)
    return " ".join(family)


def book_text(cords, book):
    """The text of the book, which may tell of all figures."""
    need_cords(cords)
    need_book_told(cords, WORDS, book)
    if book == ():
        return "none"
    return " ; ".join([text_of_figure(cords, near) + " = " + text_of_figure(cords, far) for near, far in book])


def read_row(cords, text):
    """The row with this text."""
    need_cords(cords)
    return take_row(words_of_text(text), cords)


def read_figure(cords, text):
    """The figure with this text."""
    need_cords(cords)
    return take_last_figure(words_of_text(text), cords)


def read_family(text):
    """The family with this text."""
    return take_family(words_of_text(text))


def read_book(cords, text):
    """The book with this text."""
    need_cords(cords)
    return take_book(words_of_text(text), cords)
