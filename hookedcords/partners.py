"""Partners, undoers and roots of figures, and the figures that stay."""

from hookedcords.checks import need_cords, need_figure, need_number, need_two_figures
from hookedcords.faults import need_with_own_figure
from hookedcords.numbered import figures_of
from hookedcords.powers import course_of, first_and_step, power_and_leftovers, stays
from hookedcords.putting import put_upon

MOST_ROOT = 30


def are_partners(cords, figure, other):
    """Whether each of the two, with the other one between, is itself."""
    there = put_upon(cords, figure, other)
    back = put_upon(cords, other, figure)
    return put_upon(cords, there, figure) == figure and put_upon(cords, back, other) == other


def is_partner(cords, figure, other):
    """Whether other is a partner of figure."""
    need_two_figures(cords, figure, other)
    return are_partners(cords, figure, other)


def undoer(cords, figure):
    """The partner with which the figure makes the same both ways round, None if there is none.

    If there is one it is among the powers from 1 on, and any two powers make the same both ways round.
    """
    need_cords(cords)
    need_figure(cords, figure)
    for one in course_of(cords, figure)[1][1:]:
        if are_partners(cords, figure, one):
            return one
    return None


def partners_in(cords, family, figure):
    """The ascending tuple of the partners of the figure that are figures of the family."""
    need_with_own_figure(cords, family, figure)
    return tuple([one for one in figures_of(cords, family) if are_partners(cords, figure, one)])


def first_partner(cords, family, figure):
    """The least partner of the figure in the family."""
    return partners_in(cords, family, figure)[0]


def staying_in(cords, family):
    """The ascending tuple of the figures of the family that stay."""
    return tuple([figure for figure in figures_of(cords, family) if stays(cords, figure)])


def roots_in(cords, family, figure, many):
    """The ascending tuple of the figures of the family whose power with this number is the figure."""
    need_with_own_figure(cords, family, figure)
    need_number(many, 1, MOST_ROOT)
    return tuple([one for one in figures_of(cords, family) if power_and_leftovers(cords, one, many)[0] == figure])


def roundest_in(cords, family):
    """The pair of the greatest STEP of figures of the family and the least figure that has it."""
    best = 0
    roundest = None
    for figure in figures_of(cords, family):
        step = first_and_step(cords, figure)[1]
        if step > best:
            best = step
            roundest = figure
    return best, roundest
