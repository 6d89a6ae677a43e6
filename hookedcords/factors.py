"""Division: which figure of a family leads to which, by what is put above and below."""

from hookedcords.checks import is_deed, is_figure, need_cords, need_figure, need_from
from hookedcords.errors import BadNumber, BadPaper
from hookedcords.faults import need_with_own_figures
from hookedcords.putting import figure_of_row, put_upon, turned_figure
from hookedcords.sizes import need_few
from hookedcords.walks import figures_in, least_row_back, row_to, shapes_of, walk

MOST_PAPER_DEEDS = 5000


def crown(cords, figure):
    """The figure upon itself turned over."""
    return put_upon(cords, figure, turned_figure(cords, figure))


def base(cords, figure):
    """The figure turned over upon itself."""
    return put_upon(cords, turned_figure(cords, figure), figure)


def is_led_down(cords, figure, other):
    """Whether the figure leads down to the other one, in each family that has both."""
    return put_upon(cords, crown(cords, figure), other) == other


def is_led_up(cords, figure, other):
    """Whether the figure leads up to the other one, in each family that has both."""
    return put_upon(cords, other, base(cords, figure)) == other


def is_led_on(cords, family, figure, other):
    """Whether the figure leads down to some figure of the family that leads up to the other one."""
    below = walk(cords, family, figure)[1]
    return any([is_led_up(cords, one, other) for one in below])


def crown_of(cords, figure):
    """The crown of the figure."""
    need_cords(cords)
    need_figure(cords, figure)
    return crown(cords, figure)


def base_of(cords, figure):
    """The base of the figure."""
    need_cords(cords)
    need_figure(cords, figure)
    return base(cords, figure)


def leads_down(cords, family, figure, other):
    """Whether other is figure upon some figure of the family."""
    need_with_own_figures(cords, family, figure, other)
    return is_led_down(cords, figure, other)


def leads_up(cords, family, figure, other):
    """Whether other is some figure of the family upon figure."""
    need_with_own_figures(cords, family, figure, other)
    return is_led_up(cords, figure, other)


def leads_on(cords, family, figure, other):
    """Whether other is X upon figure upon Y for some figures X and Y of the family."""
    need_with_own_figures(cords, family, figure, other)
    need_few(cords, family)
    return is_led_on(cords, family, figure, other)


def row_down(cords, family, figure, other):
    """The least shortest tuple of deeds that makes other when put below figure, None if none does."""
    need_with_own_figures(cords, family, figure, other)
    need_few(cords, family)
    before = walk(cords, family, figure)[1]
    if other not in before:
        return None
    return row_to(before, other)


def walk_above(cords, family, figure):
    """The walk by deeds put above the figure: that by deeds put below it turned over, as deeds stay themselves."""
    return walk(cords, family, turned_figure(cords, figure))


def least_above(cords, before, ends):
    """The least tuple of deeds by which a walk above comes to one of the ends, which are equally far.

    What is put above last stands first in the tuple, so the tuple is told from the ends on.
    """
    return least_row_back(before, [turned_figure(cords, end) for end in ends])


def row_up(cords, family, figure, other):
    """The least shortest tuple of deeds that makes other when put above figure, None if none does."""
    need_with_own_figures(cords, family, figure, other)
    need_few(cords, family)
    before = walk_above(cords, family, figure)[1]
    if turned_figure(cords, other) not in before:
        return None
    return least_above(cords, before, [other])


def factors_down(cords, family, figure, other):
    """The ascending list of the figures of the family upon which the figure is the other one."""
    return [one for one in figures_in(cords, family) if put_upon(cords, figure, one) == other]


def factors_up(cords, family, figure, other):
    """The ascending list of the figures of the family which, put upon the figure, are the other one."""
    return [one for one in figures_in(cords, family) if put_upon(cords, one, figure) == other]


def how_many_down(cords, family, figure, other):
    """Upon how many figures of the family the figure is the other one."""
    need_with_own_figures(cords, family, figure, other)
    need_few(cords, family)
    return len(factors_down(cords, family, figure, other))


def how_many_up(cords, family, figure, other):
    """How many figures of the family upon the figure are the other one."""
    need_with_own_figures(cords, family, figure, other)
    need_few(cords, family)
    return len(factors_up(cords, family, figure, other))


def one_at(found, number):
    """The thing with this number; BadNumber if there are fewer."""
    if number >= len(found):
        raise BadNumber(number)
    return found[number]


def factor_down(cords, family, figure, other, number):
    """Of the figures of the family upon which the figure is the other one that with this number."""
    need_with_own_figures(cords, family, figure, other)
    need_from(number, 0)
    need_few(cords, family)
    return one_at(factors_down(cords, family, figure, other), number)


def factor_up(cords, family, figure, other, number):
    """Of the figures of the family which, put upon the figure, are the other one that with this number."""
    need_with_own_figures(cords, family, figure, other)
    need_from(number, 0)
    need_few(cords, family)
    return one_at(factors_up(cords, family, figure, other), number)


def lengths_down_to(cords, family, other):
    """For each figure of the family that deeds put below make the other one: with how many at the fewest."""
    shapes = shapes_of(cords, family)
    ahead = {}
    for one in figures_in(cords, family):
        for _, shape in shapes:
            ahead.setdefault(put_upon(cords, one, shape), []).append(one)
    lengths = {other: 0}
    layer = [other]
    while layer:
        further = []
        for below in layer:
            for one in ahead.get(below, []):
                if one not in lengths:
                    lengths[one] = lengths[below] + 1
                    further.append(one)
        layer = further
    return lengths


def least_rows_on(cords, family, figure, other):
    """The pair of tuples of deeds that rows_on tells, None if there is none."""
    layers, before = walk_above(cords, family, figure)
    lengths = lengths_down_to(cords, family, other)
    middles = []
    for many, layer in enumerate(layers):
        for turned in layer:
            middle = turned_figure(cords, turned)
            if middle in lengths:
                middles.append((many + lengths[middle], many, middle))
    if not middles:
        return None
    best = min(middles)
    ends = [middle for total, many, middle in middles if total == best[0] and many == best[1]]
    above = least_above(cords, before, ends)
    middle = put_upon(cords, figure_of_row(cords, above), figure)
    return above, row_to(walk(cords, family, middle)[1], other)


def rows_on(cords, family, figure, other):
    """The pair (ABOVE, BELOW) with the fewest deeds that makes figure other, None if there is none.

    Of several that with the fewest deeds above, then the least ABOVE, then the least BELOW.
    """
    need_with_own_figures(cords, family, figure, other)
    need_few(cords, family)
    return least_rows_on(cords, family, figure, other)


def all_led_on(cords, family, figure):
    """The ascending tuple of the figures to which the figure leads on."""
    shapes = shapes_of(cords, family)
    known = set()
    fresh = [figure]
    while fresh:
        one = fresh.pop()
        if one not in known:
            known.add(one)
            fresh.extend([put_upon(cords, one, shape) for _, shape in shapes])
            fresh.extend([put_upon(cords, shape, one) for _, shape in shapes])
    return tuple(sorted(known))


def on_paper(cords, family, figure, other):
    """A paper that shows whether figure leads on to other."""
    need_with_own_figures(cords, family, figure, other)
    need_few(cords, family)
    rows = least_rows_on(cords, family, figure, other)
    if rows is None:
        return "closed", all_led_on(cords, family, figure)
    return "rows", rows[0], rows[1]


def has_form(paper):
    """Whether paper is "rows" with two more things or "closed" with one more."""
    if type(paper) is not tuple or len(paper) == 0 or type(paper[0]) is not str:
        return False
    return (paper[0] == "rows" and len(paper) == 3) or (paper[0] == "closed" and len(paper) == 2)


def are_family_deeds(cords, family, value):
    """Whether value, of any kind, is a tuple of at most 5,000 deeds of the family."""
    if type(value) is not tuple or len(value) > MOST_PAPER_DEEDS:
        return False
    return all([is_deed(cords, deed) and deed[0] in family for deed in value])


def is_rows_paper(cords, family, figure, other, paper):
    """Whether both tuples of deeds are as they should be and make figure other."""
    _, above, below = paper
    if not are_family_deeds(cords, family, above) or not are_family_deeds(cords, family, below):
        return False
    middle = put_upon(cords, figure_of_row(cords, above), figure)
    return put_upon(cords, middle, figure_of_row(cords, below)) == other


def is_closed_paper(cords, family, figure, other, paper):
    """Whether the told figures, figure among them and other not, are left by no deed above or below."""
    told = paper[1]
    if type(told) is not tuple:
        return False
    seen = set()
    for one in told:
        if not is_figure(cords, one) or one in seen:
            return False
        seen.add(one)
    if figure not in seen or other in seen:
        return False
    shapes = shapes_of(cords, family)
    for one in told:
        for _, shape in shapes:
            if put_upon(cords, one, shape) not in seen or put_upon(cords, shape, one) not in seen:
                return False
    return True


def check_on(cords, family, figure, other, paper):
    """Whether the paper shows that figure leads on to other (True) or that it doesn't (False)."""
    need_with_own_figures(cords, family, figure, other)
    if not has_form(paper):
        raise BadPaper("form")
    if paper[0] == "rows":
        if not is_rows_paper(cords, family, figure, other, paper):
            raise BadPaper("rows")
        return True
    if not is_closed_paper(cords, family, figure, other, paper):
        raise BadPaper("closed")
    return False
