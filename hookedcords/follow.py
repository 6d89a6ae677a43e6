"""Papers on what follows by a book, and partings that go well."""

from hookedcords.checks import is_between, need_cords, need_family, need_number
from hookedcords.errors import BadPaper, TooGreat
from hookedcords.faults import is_own_figure
from hookedcords.likeness import (
    are_lots, does_part_well, need_likened, need_lots, need_to_follow, numbered_pairs, unsaid_numbers, well_parted,
)
from hookedcords.putting import joined_labels, put_upon, renumbered, through_pieces
from hookedcords.sizes import family_size, need_at_most, need_few
from hookedcords.tables import Table, steps_between
from hookedcords.walks import figures_in

MOST_PARTED = 32
MOST_PARTINGS = 500


def steps_by_links(table, links):
    """A dict: for each number of a figure a list of steps from it, each in a pair with the number it leads to."""
    steps = {number: [] for number in range(len(table.figures))}
    for near, far, one, number, two in links:
        above, below = table.figures[one], table.figures[two]
        steps[near].append((far, (above, number, False, below)))
        steps[far].append((near, (above, number, True, below)))
    return steps


def follow_paper(cords, family, book, figure, other):
    """A paper that shows whether both figures follow one another by the book."""
    need_to_follow(cords, family, book, figure, other)
    table = Table(cords, family)
    lots, links = well_parted(table, numbered_pairs(table, book))
    steps = steps_between(steps_by_links(table, links), table.numbers[figure], table.numbers[other])
    if steps is None:
        return "lots", lots
    return "steps", steps


def is_step(cords, family, book, value):
    """Whether value, of any kind, is a quadruple of a figure, a number of a pair, a truth and a figure."""
    if type(value) is not tuple or len(value) != 4:
        return False
    above, number, is_back, below = value
    if not is_between(number, 0, len(book) - 1) or type(is_back) is not bool:
        return False
    return is_own_figure(cords, family, above) and is_own_figure(cords, family, below)


def has_form(cords, family, book, paper):
    """Whether paper, of any kind, is a pair of "steps" and STEPS or of "lots" and LOTS."""
    if type(paper) is not tuple or len(paper) != 2 or type(paper[0]) is not str:
        return False
    word, told = paper
    if word == "lots":
        return are_lots(cords, family, told)
    if word != "steps" or type(told) is not tuple:
        return False
    return all([is_step(cords, family, book, step) for step in told])


def do_steps_lead(cords, book, figure, other, steps):
    """Whether the steps lead from figure to other."""
    here = figure
    for above, number, is_back, below in steps:
        ends = [put_upon(cords, put_upon(cords, above, one), below) for one in book[number]]
        if is_back:
            ends = ends[::-1]
        if here != ends[0]:
            return False
        here = ends[1]
    return here == other


def check_follow(cords, family, book, figure, other, paper):
    """Whether the paper shows that both figures follow one another by the book (True) or that they don't (False)."""
    need_to_follow(cords, family, book, figure, other)
    if not has_form(cords, family, book, paper):
        raise BadPaper("form")
    word, told = paper
    if word == "steps":
        if not do_steps_lead(cords, book, figure, other, told):
            raise BadPaper("steps")
        return True
    table = Table(cords, family)
    if not does_part_well(table, told):
        raise BadPaper("well")
    if unsaid_numbers(table, told, book) != ():
        raise BadPaper("pairs")
    if told[table.numbers[figure]] == told[table.numbers[other]]:
        raise BadPaper("apart")
    return False


def need_with_lots(cords, family, lots):
    """The errors of a number of cords, a family and lots."""
    need_cords(cords)
    need_family(family)
    need_lots(cords, family, lots)


def does_go_well(cords, family, lots):
    """Whether the parting goes well."""
    need_with_lots(cords, family, lots)
    need_likened(cords, family)
    return does_part_well(Table(cords, family), lots)


def joined_lots(cords, family, lots, far_lots):
    """Lots of the least parting that goes well and puts together what either of both partings does."""
    need_with_lots(cords, family, lots)
    need_lots(cords, family, far_lots)
    need_likened(cords, family)
    pairs = [(told.index(lot), number) for told in (lots, far_lots) for number, lot in enumerate(told)]
    return well_parted(Table(cords, family), pairs)[0]


def common_lots(cords, family, lots, far_lots):
    """Lots of the parting that puts together just what both partings do."""
    need_with_lots(cords, family, lots)
    need_lots(cords, family, far_lots)
    return renumbered(list(zip(lots, far_lots)))


def rank_lots(cords, family, number):
    """Lots of the parting in which all figures of a rank below number are one lot, each other one is by itself."""
    need_cords(cords)
    need_family(family)
    need_number(number, 0, cords + 1)
    need_few(cords, family)
    labels = []
    for at, figure in enumerate(figures_in(cords, family)):
        if len(through_pieces(cords, figure)) < number:
            labels.append(-1)
        else:
            labels.append(at)
    return renumbered(labels)


def lots_by_pairs(cords, family):
    """The ascending list of all unlike lots by books of one pair of two unlike figures."""
    need_cords(cords)
    need_family(family)
    need_at_most(cords, family, MOST_PARTED)
    table = Table(cords, family)
    many = len(table.figures)
    pairs = [(near, far) for far in range(many) for near in range(far)]
    return sorted({well_parted(table, [pair])[0] for pair in pairs})


def pair_partings(cords, family):
    """The ascending tuple of all unlike lots by books of one pair of two unlike figures."""
    return tuple(lots_by_pairs(cords, family))


def all_partings(cords, family):
    """The ascending tuple of the lots of all partings that go well.

    Each of them puts together what the partings by some pairs do, and nothing else.
    """
    by_pairs = lots_by_pairs(cords, family)
    alone = tuple(range(family_size(cords, family)))
    known = {alone: True}
    fresh = [alone]
    while fresh:
        lots = fresh.pop()
        for pair_lots in by_pairs:
            joined = joined_labels(lots, pair_lots)
            if joined not in known:
                known[joined] = True
                fresh.append(joined)
        if len(known) > MOST_PARTINGS:
            raise TooGreat(MOST_PARTINGS)
    return tuple(sorted(known))
