"""What is seen of rows with gaps: the fillings that bear it, and what is sure of them."""

from itertools import combinations

from hookedcords.checks import need_cords, need_from, need_number, need_row
from hookedcords.courses import (
    Course, added_up, filling_of_number, living_states, many_ahead, ways_on, ways_to_ends,
)
from hookedcords.errors import BadNumber
from hookedcords.putting import row_course
from hookedcords.seeing import fills, need_seen_told, need_with_seen, shows_at, shows_sight


def need_seen(cords, gapped, seen):
    """What is seen itself."""
    need_with_seen(cords, gapped, seen)
    return seen


def shows(cords, row, seen):
    """For each sight whether the row shows it."""
    need_cords(cords)
    need_row(cords, row)
    need_seen_told(cords, len(row), seen)
    figures = row_course(cords, row)[0]
    return tuple([shows_sight(figures[sight[0]], sight) for sight in seen])


def is_bearing(cords, gapped, seen, row):
    """Whether the row is a filling that bears what is seen."""
    if not fills(cords, gapped, row):
        return False
    figures = row_course(cords, row)[0]
    return all([shows_at(figure, step, seen) for step, figure in enumerate(figures)])


def bears(cords, gapped, seen, row):
    """Whether the row is a filling that bears what is seen."""
    need_with_seen(cords, gapped, seen)
    need_row(cords, row)
    return is_bearing(cords, gapped, seen, row)


def course_seen(cords, gapped, seen):
    """The course of the fillings that bear what is seen, behind the errors of these arguments."""
    need_with_seen(cords, gapped, seen)
    return Course(cords, gapped, seen, ())


def many_on(course):
    """How many fillings bear what is seen."""
    return sum(ways_on(course)[0].values())


def many_bearing(cords, gapped, seen):
    """How many fillings bear what is seen."""
    return many_on(course_seen(cords, gapped, seen))


def bearing_at(cords, gapped, seen, number):
    """The filling that bears what is seen and has so many others of these ahead."""
    need_with_seen(cords, gapped, seen)
    need_from(number, 0)
    course = course_seen(cords, gapped, seen)
    if number >= many_on(course):
        raise BadNumber(number)
    return filling_of_number(course, number)


def number_bearing(cords, gapped, seen, row):
    """How many fillings that bear what is seen are ahead of the row, None if it isn't one of them."""
    need_with_seen(cords, gapped, seen)
    need_row(cords, row)
    course = course_seen(cords, gapped, seen)
    if not is_bearing(cords, gapped, seen, row):
        return None
    return many_ahead(course, row)


def ends(cords, gapped, seen):
    """The figures of the fillings that bear what is seen, ascending, each in a pair with the number of these."""
    ways = ways_to_ends(course_seen(cords, gapped, seen))
    return added_up([(state[0], many) for (state, _), many in ways.items()])


def left_ends(cords, gapped, seen):
    """The leftovers of the fillings that bear what is seen, ascending, each in a pair with the number of these."""
    ways = ways_to_ends(course_seen(cords, gapped, seen))
    return added_up([(left, many) for (_, left), many in ways.items()])


def sure_lots(cords, gapped, seen):
    """For each item the lot of the deeds there of all fillings that bear what is seen; None if there are none."""
    course = course_seen(cords, gapped, seen)
    ways = ways_on(course)
    if many_on(course) == 0:
        return None
    lots = []
    for steps, ahead in zip(course.steps, ways[1:]):
        lots.append(tuple(sorted({
            deed for found in steps.values() for deed, further, _ in found if ahead[further] > 0
        })))
    return tuple(lots)


def sure_truth(states, point, far_point):
    """Whether both points hang together in all states, True or False; None if it isn't the same in all."""
    truths = sorted({state[0][point] == state[0][far_point] for state in states})
    if len(truths) == 1:
        return truths[0]
    return None


def sure_sight(cords, gapped, seen, step, point, far_point):
    """Whether it is sure that both points hang together at the step (True), or that they don't (False), or None."""
    need_with_seen(cords, gapped, seen)
    need_number(step, 0, len(gapped))
    need_number(point, 0, 2 * cords - 2)
    need_number(far_point, point + 1, 2 * cords - 1)
    return sure_truth(living_states(course_seen(cords, gapped, seen))[step], point, far_point)


def sure_sights(cords, gapped, seen):
    """The ascending tuple of all sights that are sure."""
    found = []
    for step, states in enumerate(living_states(course_seen(cords, gapped, seen))):
        for point, far_point in combinations(range(2 * cords), 2):
            truth = sure_truth(states, point, far_point)
            if truth is not None:
                found.append((step, point, far_point, truth))
    return tuple(found)
