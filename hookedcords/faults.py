"""What keeps a figure out of a family: its faults there."""

from itertools import combinations

from hookedcords.checks import is_between, is_figure, need_cords, need_family, need_figure
from hookedcords.errors import BadFigure
from hookedcords.putting import going_round, points_by_piece


def is_let_with_join(family, tops, bottoms):
    """Whether a family with "join" lets the piece of these top and bottom places."""
    if "cut" in family:
        return True
    if "hook" in family:
        return (len(tops) + len(bottoms)) % 2 == 0
    if "swap" in family:
        return len(tops) == len(bottoms)
    return tops == bottoms and tops[-1] - tops[0] == len(tops) - 1


def is_let_without_join(family, tops, bottoms):
    """Whether a family without "join" lets the piece of these top and bottom places."""
    many = len(tops) + len(bottoms)
    if many != 2:
        return many == 1 and "cut" in family
    if "hook" in family:
        return True
    if "swap" in family:
        return len(tops) == 1
    return tops == bottoms


def is_let(cords, family, points):
    """Whether the family lets the piece of these ascending points."""
    tops = [point for point in points if point < cords]
    bottoms = [point - cords for point in points if point >= cords]
    if "join" in family:
        return is_let_with_join(family, tops, bottoms)
    return is_let_without_join(family, tops, bottoms)


def is_crossing(ring, places):
    """Whether two pieces cross at these four ascending places going round."""
    one, two, three, last = places
    return ring[one] == ring[three] and ring[two] == ring[last] and ring[one] != ring[two]


def first_crossing(ring):
    """The first four places going round at which two pieces cross, None if none do."""
    for places in combinations(range(len(ring)), 4):
        if is_crossing(ring, places):
            return places
    return None


def is_odd_between(ring, places):
    """Whether two ascending places going round have one piece and an odd number of points between."""
    one, two = places
    return ring[one] == ring[two] and (two - one) % 2 == 0


def first_odd_between(ring):
    """The first two places of one piece with an odd number of points between, None if there are none."""
    for places in combinations(range(len(ring)), 2):
        if is_odd_between(ring, places):
            return places
    return None


def first_fault(cords, family, figure):
    """The first fault of the figure in the family, None if it has none."""
    for number, points in enumerate(points_by_piece(figure)):
        if not is_let(cords, family, points):
            return ("piece", number)
    ring = going_round(cords, figure)
    if "swap" not in family:
        places = first_crossing(ring)
        if places is not None:
            return ("cross", places)
    if family == ("cut", "hook"):
        places = first_odd_between(ring)
        if places is not None:
            return ("between", places)
    return None


def is_of_family(cords, family, figure):
    """Whether the figure is one of the family."""
    return first_fault(cords, family, figure) is None


def need_of_family(cords, family, figure):
    """BadFigure("family") of a figure that isn't one of the family."""
    if not is_of_family(cords, family, figure):
        raise BadFigure("family")


def is_own_figure(cords, family, value):
    """Whether value, of any kind, is a figure of the family."""
    return is_figure(cords, value) and is_of_family(cords, family, value)


def need_own_figure(cords, family, figure):
    """BadFigure of what is no figure, then of a figure that isn't one of the family."""
    need_figure(cords, figure)
    need_of_family(cords, family, figure)


def need_with_own_figure(cords, family, figure):
    """The errors of a number of cords, a family and a figure, which is one of the family."""
    need_cords(cords)
    need_family(family)
    need_own_figure(cords, family, figure)


def need_with_own_figures(cords, family, figure, other):
    """The errors of a number of cords, a family and two figures of it, the one whole ahead of the other."""
    need_with_own_figure(cords, family, figure)
    need_own_figure(cords, family, other)


def are_places(cords, many, value):
    """Whether value, of any kind, is a tuple of so many ascending places going round."""
    if type(value) is not tuple or len(value) != many:
        return False
    least = 0
    for place in value:
        if not is_between(place, least, 2 * cords - 1):
            return False
        least = place + 1
    return True


def is_fault_told(cords, family, figure, value):
    """Whether value, of any kind, is one of the faults of the figure in the family."""
    if type(value) is not tuple or len(value) != 2 or type(value[0]) is not str:
        return False
    word, told = value
    ring = going_round(cords, figure)
    if word == "piece":
        if not is_between(told, 0, max(figure)):
            return False
        return not is_let(cords, family, points_by_piece(figure)[told])
    if word == "cross":
        return "swap" not in family and are_places(cords, 4, told) and is_crossing(ring, told)
    if word == "between":
        return family == ("cut", "hook") and are_places(cords, 2, told) and is_odd_between(ring, told)
    return False
