"""Checks of arguments that many functions share, with the errors that the interface tells."""

from hookedcords.errors import BadColours, BadCords, BadFamily, BadFigure, BadNumber, BadRow

MOST_CORDS = 5
MOST_DEEDS = 40
MOST_QUANTITY = 1000000
WORDS = ("cut", "hook", "join", "swap")


def is_from(value, least):
    """Whether value is an integer from least on; True and False are none."""
    return type(value) is int and value >= least


def is_between(value, least, most):
    """Whether value is an integer from least to most; True and False are none."""
    return type(value) is int and least <= value <= most


def need_number(value, least, most):
    """BadNumber(value) of what is no integer from least to most."""
    if not is_between(value, least, most):
        raise BadNumber(value)


def need_from(value, least):
    """BadNumber(value) of what is no integer from least on."""
    if not is_from(value, least):
        raise BadNumber(value)


def need_cords(cords):
    """BadCords(cords) of what is no number of cords."""
    if not is_between(cords, 1, MOST_CORDS):
        raise BadCords(cords)


def wrong_point(figure):
    """The first point of a tuple whose thing can be no number of its piece, None if there is none."""
    fresh = 0
    for point, piece in enumerate(figure):
        if not is_between(piece, 0, fresh):
            return point
        if piece == fresh:
            fresh = fresh + 1
    return None


def is_figure(cords, value):
    """Whether value, of any kind, is a figure of so many cords."""
    return type(value) is tuple and len(value) == 2 * cords and wrong_point(value) is None


def need_figure(cords, figure):
    """BadFigure of what is no figure; cords may be more than 5 here."""
    if type(figure) is not tuple or len(figure) != 2 * cords:
        raise BadFigure(None)
    point = wrong_point(figure)
    if point is not None:
        raise BadFigure(point)


def need_two_figures(cords, figure, other):
    """The errors of a number of cords and of two figures of so many."""
    need_cords(cords)
    need_figure(cords, figure)
    need_figure(cords, other)


def places_for(cords, word):
    """At how many places a deed with this word may be done."""
    if word == "cut":
        return cords
    return cords - 1


def is_deed(cords, value):
    """Whether value, of any kind, is a deed on so many cords."""
    if type(value) is not tuple or len(value) != 2:
        return False
    word, place = value
    if type(word) is not str or word not in WORDS:
        return False
    return is_between(place, 0, places_for(cords, word) - 1)


def is_tuple_of_at_most(value, most):
    """Whether value, of any kind, is a tuple of at most so many things."""
    return type(value) is tuple and len(value) <= most


def is_ascending(things):
    """Whether each of the things, which can be compared, is greater than the one ahead."""
    return all([near < far for near, far in zip(things, things[1:])])


def need_row(cords, row):
    """BadRow of what is no row."""
    if not is_tuple_of_at_most(row, MOST_DEEDS):
        raise BadRow(None)
    for number, deed in enumerate(row):
        if not is_deed(cords, deed):
            raise BadRow(number)


def is_row(cords, value):
    """Whether value, of any kind, is a row."""
    return is_tuple_of_at_most(value, MOST_DEEDS) and all([is_deed(cords, deed) for deed in value])


def need_family(family):
    """BadFamily of what is no family."""
    if type(family) is not tuple or len(family) == 0:
        raise BadFamily(None)
    ahead = ""
    for number, word in enumerate(family):
        if type(word) is not str or word not in WORDS or word <= ahead:
            raise BadFamily(number)
        ahead = word


def need_family_figure(cords, family, figure):
    """The errors of a number of cords, a family and a figure, be it of the family or not."""
    need_cords(cords)
    need_family(family)
    need_figure(cords, figure)


def need_family_row(cords, family, row):
    """BadRow of what is no row, then of a row with a deed whose word is none of the family's."""
    need_row(cords, row)
    for number, deed in enumerate(row):
        if deed[0] not in family:
            raise BadRow(number)


def need_quantity(many):
    """BadNumber(many) of what is no quantity of colours."""
    need_number(many, 1, MOST_QUANTITY)


def wrong_colour(many, colours):
    """The first place of a tuple whose thing is none of so many colours, None if there is none."""
    for place, colour in enumerate(colours):
        if not is_between(colour, 0, many - 1):
            return place
    return None


def is_colouring(cords, many, value):
    """Whether value, of any kind, is a colouring."""
    return type(value) is tuple and len(value) == cords and wrong_colour(many, value) is None


def need_colouring(cords, many, colours):
    """BadColours of what is no colouring."""
    if type(colours) is not tuple or len(colours) != cords:
        raise BadColours(None)
    place = wrong_colour(many, colours)
    if place is not None:
        raise BadColours(place)
