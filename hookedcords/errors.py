"""The errors of the package: HookError, and one direct subclass for each kind of failure."""


class HookError(ValueError):
    """What all errors of this package are; it can be made of any values."""


class BadCords(HookError):
    """value is no number of cords."""

    def __init__(self, value):
        self.value = value


class BadFigure(HookError):
    """What was passed is no figure, or none that is let there: place tells where, or why."""

    def __init__(self, place):
        self.place = place


class BadRow(HookError):
    """What was passed is no row: number is that of its first wrong deed, or None."""

    def __init__(self, number):
        self.number = number


class BadFamily(HookError):
    """What was passed is no family, or none that is let there: number tells where, or why."""

    def __init__(self, number):
        self.number = number


class BadBook(HookError):
    """What was passed is no book or menu: number is that of its first wrong thing, or None."""

    def __init__(self, number):
        self.number = number


class BadSeen(HookError):
    """What was passed is no tuple of sights: number is that of its first wrong thing, or None."""

    def __init__(self, number):
        self.number = number


class BadColours(HookError):
    """What was passed is no colouring: number is that of its first wrong thing, None, or why."""

    def __init__(self, number):
        self.number = number


class BadSum(HookError):
    """What was passed is no sum: number is that of its first wrong pair, or None."""

    def __init__(self, number):
        self.number = number


class BadNumber(HookError):
    """value is none of the numbers (or single things) that are let there."""

    def __init__(self, value):
        self.value = value


class BadPaper(HookError):
    """A paper isn't as it should be: word tells what is wrong."""

    def __init__(self, word):
        self.word = word


class BadWords(HookError):
    """A text cannot be read: line and word are the numbers of the first wrong word."""

    def __init__(self, line, word):
        self.line = line
        self.word = word


class BadName(HookError):
    """name is no name, or none that is there."""

    def __init__(self, name):
        self.name = name


class NothingBack(HookError):
    """There are not so many steps to be taken back or done again."""

    def __init__(self):
        """It has no fields."""


class TooGreat(HookError):
    """There would be more things than most."""

    def __init__(self, most):
        self.most = most
