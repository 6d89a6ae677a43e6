"""How many figures the families have, and which of them are too great to go through."""

from hookedcords.errors import TooGreat

MOST_FIGURES = 5000

# The numbers of figures on 1 to 5 cords.
SIZES = {
    ("cut",): (2, 4, 8, 16, 32),
    ("cut", "hook"): (2, 7, 30, 143, 728),
    ("cut", "hook", "join"): (2, 14, 132, 1430, 16796),
    ("cut", "hook", "join", "swap"): (2, 15, 203, 4140, 115975),
    ("cut", "hook", "swap"): (2, 10, 76, 764, 9496),
    ("cut", "join"): (2, 14, 132, 1430, 16796),
    ("cut", "join", "swap"): (2, 15, 203, 4140, 115975),
    ("cut", "swap"): (2, 7, 34, 209, 1546),
    ("hook",): (1, 2, 5, 14, 42),
    ("hook", "join"): (1, 3, 12, 55, 273),
    ("hook", "join", "swap"): (1, 4, 31, 379, 6556),
    ("hook", "swap"): (1, 3, 15, 105, 945),
    ("join",): (1, 2, 4, 8, 16),
    ("join", "swap"): (1, 3, 16, 131, 1496),
    ("swap",): (1, 2, 6, 24, 120),
}


def family_size(cords, family):
    """How many figures the family has."""
    return SIZES[family][cords - 1]


def need_at_most(cords, family, most):
    """TooGreat(most) of a family with more figures than most."""
    if family_size(cords, family) > most:
        raise TooGreat(most)


def need_few(cords, family):
    """TooGreat of a family with more figures than are gone through."""
    need_at_most(cords, family, MOST_FIGURES)
