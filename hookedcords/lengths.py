"""Lengths by looks: told from the figure alone; flat figures doubled and halved."""

from itertools import combinations

from hookedcords.checks import need_cords, need_family, need_figure
from hookedcords.errors import BadFamily, BadFigure
from hookedcords.faults import first_crossing, need_of_family
from hookedcords.putting import going_round, merged, points_by_piece, renumbered

LOOKS = (("cut",), ("cut", "join"), ("cut", "swap"), ("hook",), ("join",), ("swap",))


def cut_length(cords, figure):
    """How many places are cut."""
    return len([place for place in range(cords) if figure[place] != figure[cords + place]])


def join_length(cords, figure):
    """The number of cords less the number of pieces."""
    return cords - max(figure) - 1


def hook_length(cords, figure):
    """Half the sum, over all pieces, of the difference of the places of their two points."""
    spread = 0
    for one, other in points_by_piece(figure):
        spread = spread + abs(one % cords - other % cords)
    return spread // 2


def cut_join_length(cords, figure):
    """The length of the figure doubled, by hooks."""
    return hook_length(2 * cords, double_of(cords, figure))


def ends_of_things(cords, figure):
    """The list of the pieces of two points and that of the ties, each thing as its top and bottom place.

    Pieces come by their first points, so the single points of both sides ascend.
    """
    through = []
    tops = []
    bottoms = []
    for points in points_by_piece(figure):
        if len(points) == 2:
            through.append((points[0], points[1] - cords))
        elif points[0] < cords:
            tops.append(points[0])
        else:
            bottoms.append(points[0] - cords)
    return through, list(zip(tops, bottoms))


def is_crossed(pair):
    """Whether two things have their bottom places the other way round than their top places."""
    one, other = pair
    return (one[0] < other[0]) != (one[1] < other[1])


def swap_length(cords, figure):
    """The number of ties and of pairs of things that cross over; there are no ties without cuts."""
    through, ties = ends_of_things(cords, figure)
    things = through + ties
    crossed = [pair for pair in combinations(things, 2) if is_crossed(pair)]
    return len(ties) + len(crossed)


def length_by_looks(cords, family, figure):
    """The length of the figure, for the six families whose lengths are told by looks."""
    need_cords(cords)
    need_family(family)
    if family not in LOOKS:
        raise BadFamily("looks")
    need_figure(cords, figure)
    need_of_family(cords, family, figure)
    if family == ("cut",):
        return cut_length(cords, figure)
    if family == ("join",):
        return join_length(cords, figure)
    if family == ("hook",):
        return hook_length(cords, figure)
    if family == ("cut", "join"):
        return cut_join_length(cords, figure)
    return swap_length(cords, figure)


def greatest_by_looks(cords, family):
    """The greatest length, for the families of which it is told."""
    need_cords(cords)
    need_family(family)
    if "swap" in family and "cut" not in family:
        return cords * (cords - 1) // 2
    if family == ("cut", "swap") or family == ("cut", "hook", "swap"):
        return cords * (cords - 1) // 2 + 1
    if family == ("cut",):
        return cords
    if family == ("join",):
        return cords - 1
    if family == ("hook",) or family == ("hook", "join"):
        return cords * cords // 4
    if family == ("cut", "hook"):
        return (cords + 1) * (cords + 1) // 4
    if family == ("cut", "join"):
        return cords * cords
    raise BadFamily("looks")


def next_round(ring, place):
    """The next place of the same piece going round, the place itself if there is no other."""
    behind = ring[place + 1:] + ring[:place + 1]
    return (place + 1 + behind.index(ring[place])) % len(ring)


def double_of(cords, figure):
    """A flat figure doubled."""
    ring = going_round(cords, figure)
    ends = [0] * (4 * cords)
    for place in range(2 * cords):
        ends[2 * place + 1] = place
        ends[2 * next_round(ring, place)] = place
    return renumbered(going_round(2 * cords, ends))


def doubled(cords, figure):
    """A flat figure doubled; its ends stand going round as their points do, two for each."""
    need_cords(cords)
    need_figure(cords, figure)
    if first_crossing(going_round(cords, figure)) is not None:
        raise BadFigure("flat")
    return double_of(cords, figure)


def are_flat_pairs(ring):
    """Whether each piece has two places going round and no two pieces cross."""
    return all([ring.count(piece) == 2 for piece in ring]) and first_crossing(ring) is None


def halved(cords, figure):
    """The flat figure on so many cords whose double the figure is."""
    need_cords(cords)
    need_figure(2 * cords, figure)
    ring = going_round(2 * cords, figure)
    if not are_flat_pairs(ring):
        raise BadFigure("flat")
    labels = list(range(2 * cords))
    for place in range(2 * cords):
        # Flat pairs tie each odd end to an even one, that of the next point of its piece.
        tied = next_round(ring, 2 * place + 1) // 2
        labels = merged(labels, labels[place], labels[tied])
    return renumbered(going_round(cords, labels))
