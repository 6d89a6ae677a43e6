"""Powers: a figure put upon itself again and again, how they come round, and what is left over."""

from hookedcords.checks import need_cords, need_figure, need_number
from hookedcords.putting import put_together, put_upon, straight_figure, through_pieces

MOST_TIMES = 1000000000


def need_power(cords, figure, many):
    """The errors of a number of cords, a figure, and the number of a power."""
    need_cords(cords)
    need_figure(cords, figure)
    need_number(many, 0, MOST_TIMES)


def course_of(cords, figure):
    """The triple (FIRST, POWERS, LEFTOVERS): where the powers come round, two lists from power 0 on.

    The last one of POWERS is the first that was there before: that of FIRST + STEP.
    """
    powers = [straight_figure(cords)]
    leftovers = [0]
    while powers[-1] not in powers[:-1]:
        further, left = put_together(cords, powers[-1], figure)
        powers.append(further)
        leftovers.append(leftovers[-1] + left)
    return powers.index(powers[-1]), powers, leftovers


def power_and_leftovers(cords, figure, many):
    """The pair of the power and its leftovers, for any number from 0 on."""
    first, powers, leftovers = course_of(cords, figure)
    if many < first:
        return powers[many], leftovers[many]
    rounds, rest = divmod(many - first, len(powers) - 1 - first)
    growth = leftovers[-1] - leftovers[first]
    return powers[first + rest], leftovers[first + rest] + rounds * growth


def first_and_step(cords, figure):
    """The pair (FIRST, STEP)."""
    first, powers, _ = course_of(cords, figure)
    return first, len(powers) - 1 - first


def stays(cords, figure):
    """Whether the figure upon itself is itself."""
    return put_upon(cords, figure, figure) == figure


def power_that_stays(cords, figure):
    """The least number from 1 on whose power stays, and that power."""
    powers = course_of(cords, figure)[1]
    number = 1
    while not stays(cords, powers[number]):
        number = number + 1
    return number, powers[number]


def exchange_in(cords, figure):
    """The exchange within the figure."""
    still = power_that_stays(cords, figure)[1]
    taken = put_upon(cords, still, figure)
    through = through_pieces(cords, still)
    exchange = []
    for piece in through:
        bottom = taken[cords:].index(taken[still.index(piece)])
        exchange.append(through.index(still[cords + bottom]))
    return tuple(exchange)


def power(cords, figure, many):
    """The power of the figure with this number."""
    need_power(cords, figure, many)
    return power_and_leftovers(cords, figure, many)[0]


def power_leftovers(cords, figure, many):
    """What so many times the figure, put one upon the other, leave over."""
    need_power(cords, figure, many)
    return power_and_leftovers(cords, figure, many)[1]


def comes_round(cords, figure):
    """The pair (FIRST, STEP)."""
    need_cords(cords)
    need_figure(cords, figure)
    return first_and_step(cords, figure)


def powers_of(cords, figure):
    """The tuple of the powers 0 to FIRST + STEP - 1: all unlike ones."""
    need_cords(cords)
    need_figure(cords, figure)
    return tuple(course_of(cords, figure)[1][:-1])


def does_stay(cords, figure):
    """Whether power 2 of the figure is itself."""
    need_cords(cords)
    need_figure(cords, figure)
    return stays(cords, figure)


def staying_power(cords, figure):
    """The pair of the least number from 1 on whose power stays, and that power."""
    need_cords(cords)
    need_figure(cords, figure)
    return power_that_stays(cords, figure)


def exchange_within(cords, figure):
    """For each through piece of the power that stays the number of the one to which the figure takes it."""
    need_cords(cords)
    need_figure(cords, figure)
    return exchange_in(cords, figure)


def ranks_of(cords, figure):
    """The tuple of the ranks of the powers 0 to FIRST."""
    need_cords(cords)
    need_figure(cords, figure)
    first, powers, _ = course_of(cords, figure)
    return tuple([len(through_pieces(cords, one)) for one in powers[:first + 1]])
