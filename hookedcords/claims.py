"""Claims on rows, figures, families and books: their forms, and when they are so."""

from hookedcords.books import lots_of
from hookedcords.closed import many_rings
from hookedcords.colourings import times_itself
from hookedcords.factors import is_led_down
from hookedcords.faults import is_of_family
from hookedcords.least import Ladder
from hookedcords.numbered import figures_of
from hookedcords.partners import are_partners
from hookedcords.powers import first_and_step
from hookedcords.putting import figure_of_row, put_together, row_course, through_pieces

SORTS = ("row", "figure", "family", "book")

# What stands behind the word of each claim: names of things of these sorts, and numbers.
FORMS = {
    "makes": ("row", "figure"),
    "leaves": ("row", "number"),
    "alike": ("row", "row"),
    "upon": ("figure", "figure", "figure", "number"),
    "rank": ("figure", "number"),
    "belongs": ("family", "figure"),
    "fewest": ("family", "figure", "length"),
    "down": ("family", "figure", "figure"),
    "round": ("figure", "number", "number"),
    "partner": ("figure", "figure"),
    "rings": ("figure", "number"),
    "lets": ("figure", "quantity", "number"),
    "follows": ("family", "book", "figure", "figure"),
}


class Findings:
    """What is worked out for claims on so many cords, kept for further ones."""

    def __init__(self, cords):
        self.cords = cords
        self._ladders = {}
        self._lots = {}

    def ladder(self, family):
        """The ladder of the family."""
        if family not in self._ladders:
            self._ladders[family] = Ladder(self.cords, family)
        return self._ladders[family]

    def lots(self, family, book):
        """A dict: for each figure of the family the number of its lot by the book."""
        if (family, book) not in self._lots:
            lots = lots_of(self.cords, family, book)
            self._lots[(family, book)] = dict(zip(figures_of(self.cords, family), lots))
        return self._lots[(family, book)]


def does_make(findings, told):
    """Whether the row has the figure."""
    row, figure = told
    return figure_of_row(findings.cords, row) == figure


def does_leave(findings, told):
    """Whether the row has so many leftovers."""
    row, number = told
    return row_course(findings.cords, row)[1][-1] == number


def are_alike_told(findings, told):
    """Whether both rows have the same figure."""
    row, far_row = told
    return figure_of_row(findings.cords, row) == figure_of_row(findings.cords, far_row)


def does_come_of(findings, told):
    """Whether the one figure upon the other one is the third, with so many pieces left over."""
    figure, other, both, number = told
    return put_together(findings.cords, figure, other) == (both, number)


def has_rank(findings, told):
    """Whether the figure has the rank."""
    figure, number = told
    return len(through_pieces(findings.cords, figure)) == number


def does_belong(findings, told):
    """Whether the figure is one of the family."""
    family, figure = told
    return is_of_family(findings.cords, family, figure)


def has_length(findings, told):
    """Whether the figure has the length in the family; None as length of a figure that is none of the family."""
    family, figure, length = told
    if not is_of_family(findings.cords, family, figure):
        return length is None
    return findings.ladder(family).length_of(figure) == length


def are_all_of(cords, family, figures):
    """Whether all of the figures are figures of the family."""
    return all([is_of_family(cords, family, figure) for figure in figures])


def does_lead_down(findings, told):
    """Whether both figures are of the family, and the one leads down to the other one."""
    family, figure, other = told
    return are_all_of(findings.cords, family, (figure, other)) and is_led_down(findings.cords, figure, other)


def does_come_round(findings, told):
    """Whether the figure has this FIRST and this STEP."""
    figure, first, step = told
    return first_and_step(findings.cords, figure) == (first, step)


def is_partner_told(findings, told):
    """Whether both figures are partners."""
    figure, other = told
    return are_partners(findings.cords, figure, other)


def has_rings(findings, told):
    """Whether the figure has so many rings."""
    figure, number = told
    return many_rings(findings.cords, figure) == number


def does_let(_, told):
    """Whether the figure lets so many pairs by so many colours."""
    figure, many, number = told
    return times_itself(many, max(figure) + 1) == number


def does_follow_told(findings, told):
    """Whether all figures are of the family, and both follow one another by the book."""
    family, book, figure, other = told
    figures = [figure, other] + [one for pair in book for one in pair]
    if not are_all_of(findings.cords, family, figures):
        return False
    lots = findings.lots(family, book)
    return lots[figure] == lots[other]


JUDGES = {
    "makes": does_make,
    "leaves": does_leave,
    "alike": are_alike_told,
    "upon": does_come_of,
    "rank": has_rank,
    "belongs": does_belong,
    "fewest": has_length,
    "down": does_lead_down,
    "round": does_come_round,
    "partner": is_partner_told,
    "rings": has_rings,
    "lets": does_let,
    "follows": does_follow_told,
}


def is_claim_so(findings, things, word, told):
    """Whether the claim is so; things has a dict for each sort, for each name the thing that counts."""
    found = []
    for kind, one in zip(FORMS[word], told):
        if kind not in SORTS:
            found.append(one)
        elif one in things[kind]:
            found.append(things[kind][one])
        else:
            return False
    judge = JUDGES[word]
    return judge(findings, found)
