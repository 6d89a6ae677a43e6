"""Words of texts: how deeds and points are told, and how a line is read word by word."""

from hookedcords.checks import MOST_DEEDS, WORDS
from hookedcords.errors import BadWords
from hookedcords.likeness import MOST_PAIRS
from hookedcords.putting import deeds_with

MOST_DIGITS = 1000
MOST_LETTERS = 8
LETTERS = {"cut": "C", "hook": "H", "join": "J", "swap": "S"}


def deed_word(deed):
    """The word of the deed."""
    return LETTERS[deed[0]] + str(deed[1])


def deeds_by_word(cords):
    """A dict with all deeds by their words."""
    return {deed_word(deed): deed for deed in deeds_with(cords, WORDS)}


def point_words(cords):
    """The list of the words of all points."""
    return [letter + str(place) for letter in ("t", "b") for place in range(cords)]


def is_name(value):
    """Whether value, of any kind, is a name."""
    if type(value) is not str or not 1 <= len(value) <= MOST_LETTERS:
        return False
    return all(["a" <= letter <= "z" for letter in value])


def is_number_word(word):
    """Whether the word is an integer from 0 on in decimal, without needless zeros."""
    if not 1 <= len(word) <= MOST_DIGITS or not all(["0" <= digit <= "9" for digit in word]):
        return False
    return word == "0" or word[0] != "0"


class Words:
    """The words of a line with this number, which are taken one after the other; BadWords at the first wrong one."""

    def __init__(self, line, text):
        self._line = line
        self._words = text.split(" ")
        self._at = 0

    def ahead(self):
        """The word that is to be taken next, None behind the last one."""
        if self._at == len(self._words):
            return None
        return self._words[self._at]

    def take_if(self, is_right):
        """The next word, if it is right."""
        if not is_right:
            raise BadWords(self._line, self._at)
        self._at = self._at + 1
        return self._words[self._at - 1]

    def take_one_of(self, choices):
        """The next word, which is one of the choices."""
        return self.take_if(self.ahead() in choices)

    def take_name(self):
        """The next word, which is a name."""
        return self.take_if(is_name(self.ahead()))

    def take_number(self, least, most):
        """The number that the next word tells, from least to most; None as most if there is no greatest one."""
        word = self.ahead()
        is_right = word is not None and is_number_word(word) and int(word) >= least
        return int(self.take_if(is_right and (most is None or int(word) <= most)))

    def need_end(self):
        """Nothing may stand behind the words taken."""
        if self.ahead() is not None:
            raise BadWords(self._line, self._at)


def words_of_text(text):
    """The words of a text of one line, ready to be taken."""
    if type(text) is not str:
        raise BadWords(None, None)
    return Words(0, text)


def take_row(words, cords):
    """The row that all further words tell."""
    row = []
    if words.ahead() == "-":
        words.take_one_of(("-",))
    else:
        deeds = deeds_by_word(cords)
        row.append(deeds[words.take_one_of(deeds)])
        while words.ahead() is not None and len(row) < MOST_DEEDS:
            row.append(deeds[words.take_one_of(deeds)])
    words.need_end()
    return tuple(row)


def take_figure(words, cords):
    """The figure that the next words tell; they end where each point is told."""
    names = point_words(cords)
    left = list(range(2 * cords))
    pieces = {}
    piece = 0
    choices = names[:1]
    while left:
        word = words.take_one_of(choices)
        if word == "/":
            piece = piece + 1
            choices = [names[left[0]]]
        else:
            last = names.index(word)
            pieces[last] = piece
            left = [point for point in left if point != last]
            choices = ["/"] + [names[point] for point in left if point > last]
    return tuple([pieces[point] for point in range(2 * cords)])


def take_last_figure(words, cords):
    """The figure that all further words tell."""
    figure = take_figure(words, cords)
    words.need_end()
    return figure


def take_family(words):
    """The family that all further words tell."""
    family = [words.take_one_of(WORDS)]
    while words.ahead() is not None:
        family.append(words.take_one_of([word for word in WORDS if word > family[-1]]))
    return tuple(family)


def take_pair(words, cords):
    """The pair of figures that the next words tell."""
    near = take_figure(words, cords)
    words.take_one_of(("=",))
    return near, take_figure(words, cords)


def take_book(words, cords):
    """The book that all further words tell."""
    book = []
    if words.ahead() == "none":
        words.take_one_of(("none",))
    else:
        book.append(take_pair(words, cords))
        while words.ahead() is not None and len(book) < MOST_PAIRS:
            words.take_one_of((";",))
            book.append(take_pair(words, cords))
    words.need_end()
    return tuple(book)
