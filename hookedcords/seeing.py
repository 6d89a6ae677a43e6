"""Rows with gaps, what is seen of them, and the questions that may be asked of their fillings."""

from hookedcords.checks import WORDS, is_ascending, is_between, is_deed, is_tuple_of_at_most, need_cords
from hookedcords.errors import BadBook, BadRow, BadSeen
from hookedcords.putting import deeds_with

MOST_ITEMS = 12
MOST_SIGHTS = 12
MOST_QUESTIONS = 8


def is_lot(cords, value):
    """Whether value, of any kind, is an ascending tuple of at least one deed."""
    if type(value) is not tuple or len(value) == 0:
        return False
    return all([is_deed(cords, deed) for deed in value]) and is_ascending(value)


def need_gapped_told(cords, gapped):
    """BadRow of what is no row with gaps."""
    if not is_tuple_of_at_most(gapped, MOST_ITEMS):
        raise BadRow(None)
    for number, item in enumerate(gapped):
        if item is not None and not is_lot(cords, item):
            raise BadRow(number)


def need_with_gapped(cords, gapped):
    """The errors of a number of cords and a row with gaps."""
    need_cords(cords)
    need_gapped_told(cords, gapped)


def lots_in_gapped(cords, gapped):
    """The list of the lots of the items, also of those that are None."""
    return [deeds_with(cords, WORDS) if item is None else item for item in gapped]


def fills(cords, gapped, row):
    """Whether the row is a filling."""
    if len(row) != len(gapped):
        return False
    return all([deed in lot for deed, lot in zip(row, lots_in_gapped(cords, gapped))])


def are_points(cords, point, far_point):
    """Whether both, of any kind, are points, the former less than the latter."""
    return is_between(point, 0, 2 * cords - 2) and is_between(far_point, point + 1, 2 * cords - 1)


def is_question(cords, length, value):
    """Whether value, of any kind, is a question about rows of so many deeds."""
    if type(value) is not tuple or len(value) != 3:
        return False
    step, point, far_point = value
    return is_between(step, 0, length) and are_points(cords, point, far_point)


def is_sight(cords, length, value):
    """Whether value, of any kind, is a question about rows of so many deeds, with a truth."""
    if type(value) is not tuple or len(value) != 4:
        return False
    return is_question(cords, length, value[:3]) and type(value[3]) is bool


def need_seen_told(cords, length, seen):
    """BadSeen of what is no tuple of sights of rows of so many deeds."""
    if not is_tuple_of_at_most(seen, MOST_SIGHTS):
        raise BadSeen(None)
    for number, sight in enumerate(seen):
        if not is_sight(cords, length, sight):
            raise BadSeen(number)


def need_with_seen(cords, gapped, seen):
    """The errors of a number of cords, a row with gaps, and what is seen."""
    need_with_gapped(cords, gapped)
    need_seen_told(cords, len(gapped), seen)


def need_menu_told(cords, length, menu):
    """BadBook of what is no menu of questions about rows of so many deeds."""
    if not is_tuple_of_at_most(menu, MOST_QUESTIONS) or len(menu) == 0:
        raise BadBook(None)
    for number, question in enumerate(menu):
        if not is_question(cords, length, question) or question in menu[:number]:
            raise BadBook(number)


def shows_sight(figure, sight):
    """Whether the figure shows the sight, at whatever step that is."""
    _, point, far_point, is_one = sight
    return (figure[point] == figure[far_point]) == is_one


def shows_at(figure, step, seen):
    """Whether the figure shows all that is seen at the step."""
    return all([shows_sight(figure, sight) for sight in seen if sight[0] == step])
