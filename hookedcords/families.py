"""The fifteen families, by the words of their deeds, and which figures they have."""

from hookedcords.checks import need_cords, need_family, need_family_figure, need_figure, need_row
from hookedcords.faults import first_fault, is_fault_told, is_of_family
from hookedcords.putting import deeds_with, figure_of_deed

FAMILIES = (
    ("cut",),
    ("cut", "hook"),
    ("cut", "hook", "join"),
    ("cut", "hook", "join", "swap"),
    ("cut", "hook", "swap"),
    ("cut", "join"),
    ("cut", "join", "swap"),
    ("cut", "swap"),
    ("hook",),
    ("hook", "join"),
    ("hook", "join", "swap"),
    ("hook", "swap"),
    ("join",),
    ("join", "swap"),
    ("swap",),
)


def all_families():
    """The ascending tuple of the fifteen families."""
    return FAMILIES


def family_deeds(cords, family):
    """The ascending tuple of the family's deeds."""
    need_cords(cords)
    need_family(family)
    return deeds_with(cords, family)


def has_figure(cords, family, figure):
    """Whether the figure is one of the family."""
    need_family_figure(cords, family, figure)
    return is_of_family(cords, family, figure)


def fault(cords, family, figure):
    """The first fault of the figure in the family, None if it has none."""
    need_family_figure(cords, family, figure)
    return first_fault(cords, family, figure)


def is_fault(cords, family, figure, value):
    """Whether value, of any kind, is one of the faults of the figure in the family."""
    need_family_figure(cords, family, figure)
    return is_fault_told(cords, family, figure, value)


def words_of(cords, row):
    """The ascending tuple of the words of the row's deeds, each once."""
    need_cords(cords)
    need_row(cords, row)
    return tuple(sorted({word for word, place in row}))


def families_with(cords, figure):
    """The ascending tuple of the families that have the figure."""
    need_cords(cords)
    need_figure(cords, figure)
    return tuple([family for family in FAMILIES if is_of_family(cords, family, figure)])


def is_within(family, far_family):
    """Whether all words of the one family are among those of the other one."""
    return all([word in far_family for word in family])


def least_families(cords, figure):
    """The ascending tuple of the families that have the figure, but not with fewer of their own words."""
    having = families_with(cords, figure)
    return tuple([family for family in having if [one for one in having if is_within(one, family)] == [family]])


def first_family(cords, figure):
    """Of the families that have the figure the one with the fewest words, of several the first."""
    having = families_with(cords, figure)
    return min([(len(family), family) for family in having])[1]


def holds_all(cords, family, other):
    """Whether the family has the figures of all deeds of the other one, and so all figures of that one."""
    return all([is_of_family(cords, family, figure_of_deed(cords, deed)) for deed in deeds_with(cords, other)])


def holds_family(cords, family, other):
    """Whether the family has all figures of the other one."""
    need_cords(cords)
    need_family(family)
    need_family(other)
    return holds_all(cords, family, other)


def same_families(cords, family):
    """The ascending tuple of the families with just the same figures, itself among them."""
    need_cords(cords)
    need_family(family)
    return tuple([one for one in FAMILIES if holds_all(cords, one, family) and holds_all(cords, family, one)])
