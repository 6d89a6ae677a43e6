"""Papers on whether some filling of a row with gaps bears what is seen."""

from hookedcords.checks import is_ascending, is_figure, is_row, is_tuple_of_at_most
from hookedcords.courses import MOST_STATES, filling_of_number
from hookedcords.errors import BadPaper
from hookedcords.putting import figure_of_deed, put_upon, straight_figure
from hookedcords.seeing import lots_in_gapped, need_with_seen, shows_at
from hookedcords.sights import course_seen, is_bearing


def bearing_paper(cords, gapped, seen):
    """A paper that shows whether some filling bears what is seen."""
    course = course_seen(cords, gapped, seen)
    if course.layers[-1]:
        return "row", filling_of_number(course, 0)
    return "closed", tuple([tuple(sorted([figure for figure, _ in layer])) for layer in course.layers])


def is_layer(cords, value):
    """Whether value, of any kind, is an ascending tuple of at most 2,000 figures."""
    if not is_tuple_of_at_most(value, MOST_STATES):
        return False
    return all([is_figure(cords, figure) for figure in value]) and is_ascending(value)


def are_layers(cords, length, value):
    """Whether value, of any kind, is a tuple of layers for rows of so many deeds, the last of them ()."""
    if type(value) is not tuple or len(value) != length + 1 or value[-1] != ():
        return False
    return all([is_layer(cords, layer) for layer in value])


def leads_into(cords, layer, lot, step, seen, behind):
    """Whether each deed of the lot below each figure of the layer is in behind or doesn't show what is seen there."""
    known = {figure: True for figure in behind}
    for deed in lot:
        shape = figure_of_deed(cords, deed)
        for figure in layer:
            below = put_upon(cords, figure, shape)
            if below not in known and shows_at(below, step, seen):
                return False
    return True


def are_closed(cords, gapped, seen, layers):
    """Whether the layers hold all that first deeds of fillings bring which bear what is seen up to there."""
    start = straight_figure(cords)
    if start not in layers[0] and shows_at(start, 0, seen):
        return False
    for at, lot in enumerate(lots_in_gapped(cords, gapped)):
        if not leads_into(cords, layers[at], lot, at + 1, seen, layers[at + 1]):
            return False
    return True


def check_bearing(cords, gapped, seen, paper):
    """Whether the paper shows that some filling bears what is seen (True) or that none does (False)."""
    need_with_seen(cords, gapped, seen)
    if type(paper) is not tuple or len(paper) != 2 or type(paper[0]) is not str or paper[0] not in ("row", "closed"):
        raise BadPaper("form")
    word, told = paper
    if word == "row":
        if not is_row(cords, told) or not is_bearing(cords, gapped, seen, told):
            raise BadPaper("row")
        return True
    if not are_layers(cords, len(gapped), told) or not are_closed(cords, gapped, seen, told):
        raise BadPaper("closed")
    return False
