"""Figures put upon one another, deeds and rows: what the checked functions rest on."""

from hookedcords.checks import places_for


def renumbered(labels):
    """The figure by which just the points with equal labels hang together."""
    numbers = {}
    figure = []
    for label in labels:
        if label not in numbers:
            numbers[label] = len(numbers)
        figure.append(numbers[label])
    return tuple(figure)


def merged(labels, near, far):
    """The labels with near in the place of far."""
    return [near if label == far else label for label in labels]


def points_by_piece(figure):
    """The pieces by their numbers, each the ascending tuple of its points."""
    pieces = [[] for _ in range(max(figure) + 1)]
    for point, piece in enumerate(figure):
        pieces[piece].append(point)
    return tuple([tuple(points) for points in pieces])


def through_pieces(cords, figure):
    """The ascending list of the numbers of the through pieces: those of top points that bottom points have, too."""
    return [piece for piece in range(max(figure[:cords]) + 1) if piece in figure[cords:]]


def joined_labels(labels, other):
    """The labels by which just what hangs together by labels, or by the figure other, or by both, is one."""
    joined = list(labels)
    for points in points_by_piece(other):
        for point in points:
            joined = merged(joined, joined[points[0]], joined[point])
    return renumbered(joined)


def straight_figure(cords):
    """The figure of the row ()."""
    return tuple(range(cords)) + tuple(range(cords))


def put_together(cords, figure, other):
    """The pair of figure upon other and the number of pieces left over."""
    far_start = max(figure) + 1
    lots = list(range(far_start + max(other) + 1))
    for place in range(cords):
        near = lots[figure[cords + place]]
        far = lots[far_start + other[place]]
        if near != far:
            lots = merged(lots, near, far)
    tops = [lots[piece] for piece in figure[:cords]]
    bottoms = [lots[far_start + piece] for piece in other[cords:]]
    labels = tops + bottoms
    return renumbered(labels), len(set(lots)) - len(set(labels))


def put_once(cords, known, figure, other):
    """The pair of figure upon other and the number of pieces left over; known, a dict, keeps it."""
    if (figure, other) not in known:
        known[(figure, other)] = put_together(cords, figure, other)
    return known[(figure, other)]


def put_upon(cords, figure, other):
    """The figure upon the other one."""
    return put_together(cords, figure, other)[0]


def turned_figure(cords, figure):
    """The figure with top and bottom exchanged."""
    return renumbered(figure[cords:] + figure[:cords])


def going_round(cords, labels):
    """What stands at the points, in the order going round; done twice it is the order of the points again."""
    return labels[:cords] + labels[cords:][::-1]


def deeds_with(cords, words):
    """The ascending tuple of the deeds with one of these ascending words."""
    return tuple([(word, place) for word in words for place in range(places_for(cords, word))])


def figure_of_deed(cords, deed):
    """The figure of the row that has this deed alone."""
    word, place = deed
    labels = list(straight_figure(cords))
    top = place
    bottom = cords + place
    if word == "cut":
        labels[bottom] = cords
    if word == "hook":
        labels[top + 1] = labels[top]
        labels[bottom] = labels[bottom + 1]
    if word == "join":
        labels[top + 1] = labels[top]
        labels[bottom + 1] = labels[bottom]
    if word == "swap":
        labels[bottom], labels[bottom + 1] = labels[bottom + 1], labels[bottom]
    return renumbered(labels)


def row_course(cords, row):
    """Two lists, from () on to the whole row: the figures and the leftovers of its beginnings."""
    figures = [straight_figure(cords)]
    leftovers = [0]
    for deed in row:
        figure, left = put_together(cords, figures[-1], figure_of_deed(cords, deed))
        figures.append(figure)
        leftovers.append(leftovers[-1] + left)
    return figures, leftovers


def figure_of_row(cords, row):
    """The figure of a tuple of deeds, however many they are."""
    return row_course(cords, row)[0][-1]
