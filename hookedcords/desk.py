"""A desk: it keeps a live weave and its guide, and answers lines of words."""

from hookedcords.checks import MOST_CORDS, WORDS
from hookedcords.errors import HookError, NothingBack
from hookedcords.guide import Guide
from hookedcords.live import Weave
from hookedcords.texts import text_of_figure, text_of_row
from hookedcords.wording import (
    Words, point_words, take_family, take_last_figure, take_row,
)

DONE = "done"
NO = "no"
# What can be answered without a weave, and what cannot without a guide.
WITHOUT_WEAVE = ("weave",)
WITH_GUIDE = ("left", "due", "go", "stop")


def yes_or_no(truth):
    """The word of a truth."""
    if truth:
        return "yes"
    return NO


def take_last_name(words):
    """The name that all further words tell."""
    name = words.take_name()
    words.need_end()
    return name


def take_many(words):
    """How many steps all further words tell: one if there are none."""
    if words.ahead() is None:
        return 1
    many = words.take_number(1, None)
    words.need_end()
    return many


def say_weave(desk, words):
    """A new weave, with no guide and the family of all words."""
    cords = words.take_number(1, MOST_CORDS)
    words.need_end()
    desk.weave = Weave(cords)
    desk.guide = None
    desk.family = WORDS
    return DONE


def say_row_below(desk, words):
    """A row put below."""
    desk.weave.work(take_row(words, desk.weave.cords))
    return DONE


def say_above(desk, words):
    """A row put above."""
    desk.weave.work_above(take_row(words, desk.weave.cords))
    return DONE


def say_turn(desk, words):
    """All turned over."""
    words.need_end()
    desk.weave.turn_over()
    return DONE


def say_back(desk, words):
    """Steps taken back."""
    desk.weave.undo(many=take_many(words))
    return DONE


def say_again(desk, words):
    """Steps done again."""
    desk.weave.again(many=take_many(words))
    return DONE


def say_row(desk, words):
    """The text of the row."""
    words.need_end()
    return text_of_row(desk.weave.row)


def say_figure(desk, words):
    """The text of the figure."""
    words.need_end()
    return text_of_figure(desk.weave.cords, desk.weave.figure())


def say_leftovers(desk, words):
    """How many leftovers there are."""
    words.need_end()
    return str(desk.weave.leftovers())


def say_hang(desk, words):
    """Whether two points hang together."""
    names = point_words(desk.weave.cords)
    point = names.index(words.take_one_of(names))
    far_point = names.index(words.take_one_of(names))
    words.need_end()
    return yes_or_no(desk.weave.hang_together(point, far_point))


def say_mark(desk, words):
    """A mark is set."""
    desk.weave.mark(take_last_name(words))
    return DONE


def say_alike(desk, words):
    """Whether the weave is alike to a mark."""
    return yes_or_no(desk.weave.is_alike(take_last_name(words)))


def say_family(desk, words):
    """The family from now on."""
    desk.family = take_family(words)
    return DONE


def say_goal(desk, words):
    """A guide to a figure."""
    desk.guide = Guide(desk.weave, desk.family, take_last_figure(words, desk.weave.cords))
    return DONE


def say_left(desk, words):
    """How many deeds the way left has."""
    words.need_end()
    many = desk.guide.left()
    if many is None:
        return "never"
    return str(many)


def say_due(desk, words):
    """The word of the first deed of the way left."""
    words.need_end()
    row = desk.guide.way_left()
    if row is None:
        return "never"
    return text_of_row(row[:1])


def say_go(desk, words):
    """The first deed of the way left, which is put below."""
    answer = say_due(desk, words)
    desk.guide.go()
    return answer


def say_stop(desk, words):
    """No guide any more."""
    words.need_end()
    desk.guide = None
    return DONE


ANSWERS = {
    "weave": say_weave,
    "above": say_above,
    "turn": say_turn,
    "back": say_back,
    "again": say_again,
    "row": say_row,
    "figure": say_figure,
    "leftovers": say_leftovers,
    "hang": say_hang,
    "mark": say_mark,
    "alike": say_alike,
    "family": say_family,
    "goal": say_goal,
    "left": say_left,
    "due": say_due,
    "go": say_go,
    "stop": say_stop,
}


class Desk:
    """Answers lines of words about a live weave; family is that by which guides are made from now on."""

    def __init__(self):
        self.weave = None
        self.guide = None
        self.family = WORDS

    def _is_open_to(self, word):
        """Whether there is what a line with this first word needs."""
        if word in WITH_GUIDE:
            return self.guide is not None
        return word in WITHOUT_WEAVE or self.weave is not None

    def _answer(self, words):
        """The answer to the words of a line."""
        word = words.ahead()
        if not self._is_open_to(word):
            return NO
        if word not in ANSWERS:
            return say_row_below(self, words)
        words.take_one_of((word,))
        action = ANSWERS[word]
        return action(self, words)

    def say(self, line):
        """The answer to any value."""
        if type(line) is not str:
            return NO
        try:
            return self._answer(Words(0, line))
        except NothingBack:
            return "nothing"
        except HookError:
            return NO
