"""The document's words worked out another way than in the package: by points, graphs and going through all."""

import functools
import itertools
import random

WORDS = ("cut", "hook", "join", "swap")
FAMILIES = sorted(
    tuple(words) for many in range(1, 5) for words in itertools.combinations(WORDS, many)
)


def growth_strings(many):
    """All tuples that number the pieces of so many points, ascending."""
    found = [()]
    for _ in range(many):
        found = [one + (piece,) for one in found for piece in range(max(one, default=-1) + 2)]
    return found


def all_figures(cords):
    return growth_strings(2 * cords)


def some_figures(cords, many, seed=7):
    """So many drawn figures, always the same ones: some with many pieces, some with few."""
    source = random.Random(seed * 100 + cords)
    found = []
    for _ in range(many):
        kinds = source.randint(1, 2 * cords)
        found.append(by_labels([source.randrange(kinds) for _ in range(2 * cords)]))
    return found


def many_figures():
    """Pairs of a number of cords and a figure: all of up to three cords, drawn ones of four and five."""
    for cords in (1, 2, 3):
        for figure in all_figures(cords):
            yield cords, figure
    for cords in (4, 5):
        for figure in some_figures(cords, 150):
            yield cords, figure


def some_rows(cords, many, most, seed=3, words=WORDS):
    source = random.Random(seed * 100 + cords)
    deeds = deeds_of(cords, words)
    return [
        tuple(source.choice(deeds) for _ in range(source.randint(0, most))) if deeds else ()
        for _ in range(many)
    ]


def by_labels(labels):
    order = list(dict.fromkeys(labels))
    return tuple(order.index(label) for label in labels)


def components(nodes, edges):
    """The lots of nodes that hang together, as sets, by a search along the edges."""
    near = {node: set() for node in nodes}
    for one, other in edges:
        near[one].add(other)
        near[other].add(one)
    seen = set()
    lots = []
    for node in nodes:
        if node in seen:
            continue
        lot = set()
        fresh = [node]
        while fresh:
            here = fresh.pop()
            if here not in lot:
                lot.add(here)
                fresh.extend(near[here])
        seen |= lot
        lots.append(lot)
    return lots


def figure_by_lots(outer, lots):
    """The figure of the outer nodes, in their order."""
    return by_labels([next(at for at, lot in enumerate(lots) if node in lot) for node in outer])


@functools.lru_cache(maxsize=200000)
def put(cords, figure, other):
    """The pair of figure upon other and what is left over: a search over top, middle and bottom points."""
    places = range(cords)
    top = [("top", place) for place in places]
    middle = [("middle", place) for place in places]
    bottom = [("bottom", place) for place in places]
    edges = []
    for points, one in ((top + middle, figure), (middle + bottom, other)):
        for near, far in itertools.combinations(range(2 * cords), 2):
            if one[near] == one[far]:
                edges.append((points[near], points[far]))
    lots = components(top + middle + bottom, edges)
    left = sum(all(node[0] == "middle" for node in lot) for lot in lots)
    return figure_by_lots(top + bottom, lots), left


def upon(cords, *figures):
    whole = figures[0]
    for figure in figures[1:]:
        whole = put(cords, whole, figure)[0]
    return whole


def over(cords, figure):
    return by_labels(figure[cords:] + figure[:cords])


def through(cords, figure):
    """The numbers of the through pieces, ascending."""
    return sorted(set(figure[:cords]) & set(figure[cords:]))


def deeds_of(cords, words=WORDS):
    return [(word, place) for word in words for place in range(cords if word == "cut" else cords - 1)]


def deed_figure(cords, deed):
    """The figure of a deed, by its pieces."""
    word, place = deed
    top, bottom, far_top, far_bottom = place, cords + place, place + 1, cords + place + 1
    pieces = {
        "cut": [[top], [bottom]],
        "hook": [[top, far_top], [bottom, far_bottom]],
        "swap": [[top, far_bottom], [far_top, bottom]],
        "join": [[top, far_top, bottom, far_bottom]],
    }[word]
    told = {point for piece in pieces for point in piece}
    pieces += [[one, cords + one] for one in range(cords) if one not in told]
    return by_labels([min(piece) for point in range(2 * cords) for piece in pieces if point in piece])


def row_told(cords, row):
    """The pair of the figure and the leftovers of a row, from its last deed to its first."""
    figure = tuple(range(cords)) * 2
    left = 0
    for deed in reversed(row):
        figure, more = put(cords, deed_figure(cords, deed), figure)
        left += more
    return figure, left


def pieces(figure):
    return [[at for at, piece in enumerate(figure) if piece == number] for number in range(max(figure) + 1)]


def ring(cords):
    """The points in their order going round."""
    return list(range(cords)) + list(range(2 * cords - 1, cords - 1, -1))


def is_flat(cords, figure):
    """Flat by taking off: some piece of neighbouring points going round is taken off again and again."""
    around = [figure[point] for point in ring(cords)]
    while around:
        for piece in set(around):
            places = [at for at, one in enumerate(around) if one == piece]
            if places[-1] - places[0] == len(places) - 1:
                around = [one for one in around if one != piece]
                break
        else:
            return False
    return True


def belongs(cords, family, figure):
    """Whether a figure is one of the family, by the facts of [15]."""
    lots = pieces(figure)
    sizes = [len(lot) for lot in lots]
    tops = [[point for point in lot if point < cords] for lot in lots]
    bottoms = [[point - cords for point in lot if point >= cords] for lot in lots]
    flat = is_flat(cords, figure)
    even = all(size % 2 == 0 for size in sizes)
    if cords == 1 and "cut" not in family:
        return figure == (0, 0)
    if {"cut", "join"} <= set(family):
        return "swap" in family or flat
    if {"hook", "join"} <= set(family):
        return even and ("swap" in family or flat)
    if family == ("swap",):
        return all(len(one) == len(other) == 1 for one, other in zip(tops, bottoms))
    if family == ("cut",):
        return all(len(lot) == 1 or lot == [lot[0], lot[0] + cords] for lot in lots)
    if family == ("join",):
        return all(one == other and one == list(range(one[0], one[-1] + 1)) for one, other in zip(tops, bottoms))
    if family == ("hook",):
        return flat and all(size == 2 for size in sizes)
    if family == ("hook", "swap"):
        return all(size == 2 for size in sizes)
    if family == ("cut", "swap"):
        return all(size == 1 or len(one) == len(other) == 1 for size, one, other in zip(sizes, tops, bottoms))
    if family == ("cut", "hook", "swap"):
        return all(size <= 2 for size in sizes)
    if family == ("join", "swap"):
        return all(len(one) == len(other) > 0 for one, other in zip(tops, bottoms))
    around = ring(cords)
    for lot in lots:
        if len(lot) == 2 and (around.index(lot[0]) - around.index(lot[1])) % 2 == 0:
            return False
    return flat and all(size <= 2 for size in sizes)


def closure(cords, family):
    """The figures of all rows of a family's deeds, put on from above, with the fewest deeds of each."""
    shapes = [deed_figure(cords, deed) for deed in deeds_of(cords, family)]
    lengths = {tuple(range(cords)) * 2: 0}
    fresh = list(lengths)
    while fresh:
        further = []
        for figure in fresh:
            for shape in shapes:
                above = put(cords, shape, figure)[0]
                if above not in lengths:
                    lengths[above] = lengths[figure] + 1
                    further.append(above)
        fresh = further
    return lengths


@functools.lru_cache(maxsize=None)
def figures_of(cords, family):
    return tuple(sorted(closure(cords, family)))


def small_families(most, least=0):
    """Pairs of a number of cords and a family with at most so many figures, on up to three cords."""
    for cords in (1, 2, 3):
        for family in FAMILIES:
            if least <= len(figures_of(cords, family)) <= most:
                yield cords, family


def rows_up_to(cords, family, most):
    """All rows of a family's deeds with at most so many deeds, shorter ones first, then as tuples ascend."""
    deeds = deeds_of(cords, family)
    for many in range(most + 1):
        yield from itertools.product(deeds, repeat=many)


def told_of(call, *values):
    """What a call returns or the error that it raises, with its fields."""
    try:
        return call(*values)
    except ValueError as error:
        return type(error), tuple(vars(error).values())


def fillings(cords, gapped):
    """All fillings of a row with gaps, ascending."""
    return list(itertools.product(*[deeds_of(cords) if item is None else item for item in gapped]))


def figures_on_way(cords, row):
    """The figures of the first 0, 1 and so on deeds of a row."""
    found = [tuple(range(cords)) * 2]
    for deed in row:
        found.append(put(cords, found[-1], deed_figure(cords, deed))[0])
    return found


def does_show(cords, row, sight):
    """Whether a row shows a sight."""
    step, point, far_point, is_one = sight
    figure = figures_on_way(cords, row)[step]
    return (figure[point] == figure[far_point]) is is_one


def bearing(cords, gapped, seen):
    """All fillings that bear what is seen, ascending."""
    return [row for row in fillings(cords, gapped) if all(does_show(cords, row, sight) for sight in seen)]


def all_questions(cords, gapped):
    points = itertools.combinations(range(2 * cords), 2)
    return [(step, *pair) for step, pair in itertools.product(range(len(gapped) + 1), points)]


def drawn_gapped(source, cords, most=4, least=0):
    """A drawn row with gaps: with LOTS of one deed, of some, of all, and with None."""
    deeds = deeds_of(cords)
    items = []
    for _ in range(source.randint(least, most)):
        many = source.choice((1, 1, 2, 2, 3, len(deeds)))
        items.append(source.choice((None, tuple(sorted(source.sample(deeds, min(many, len(deeds))))))))
        if source.random() < 0.6:
            items[-1] = tuple(sorted(source.sample(deeds, min(many, len(deeds)))))
    return tuple(items)


def drawn_seen(source, cords, gapped, most=4):
    """Drawn SIGHTS: mostly such as one filling shows, at times such as speak against one another."""
    row = source.choice(fillings(cords, gapped))
    seen = []
    for _ in range(source.randint(0, most)):
        sight = source.choice(all_questions(cords, gapped)) + (True,)
        truth = does_show(cords, row, sight)
        seen.append(sight[:3] + (truth if source.random() < 0.85 else not truth,))
    return tuple(seen)


def drawn_sightings(many, seed, cords=(1, 2, 2, 3), most=4):
    """Triples of a number of cords, a row with gaps and what is seen."""
    source = random.Random(seed)
    found = [(1, (), ()), (2, (), ((0, 0, 2, True),)), (2, (), ((0, 0, 1, True),)), (1, (None,) * 3, ())]
    for _ in range(many):
        one = source.choice(cords)
        gapped = drawn_gapped(source, one, most)
        found.append((one, gapped, drawn_seen(source, one, gapped)))
    return found
