"""Rows with gaps and their fillings, numbered as tuples ascend."""

from hookedcords.checks import WORDS, need_cords, need_number, need_row
from hookedcords.errors import BadRow
from hookedcords.putting import deeds_with
from hookedcords.seeing import MOST_ITEMS, fills, lots_in_gapped, need_with_gapped


def need_gapped(cords, gapped):
    """The row with gaps itself."""
    need_with_gapped(cords, gapped)
    return gapped


def all_deeds(cords):
    """The lot for which None stands."""
    need_cords(cords)
    return deeds_with(cords, WORDS)


def does_fill(cords, gapped, row):
    """Whether the row is a filling."""
    need_with_gapped(cords, gapped)
    need_row(cords, row)
    return fills(cords, gapped, row)


def many_fillings(cords, gapped):
    """How many fillings there are."""
    need_with_gapped(cords, gapped)
    many = 1
    for lot in lots_in_gapped(cords, gapped):
        many = many * len(lot)
    return many


def filling_at(cords, gapped, number):
    """The filling with this number."""
    need_number(number, 0, many_fillings(cords, gapped) - 1)
    row = []
    rest = number
    for lot in lots_in_gapped(cords, gapped)[::-1]:
        rest, place = divmod(rest, len(lot))
        row.append(lot[place])
    return tuple(row[::-1])


def number_of_filling(cords, gapped, row):
    """The number of the row as a filling, None of a row that is none."""
    if not does_fill(cords, gapped, row):
        return None
    number = 0
    for deed, lot in zip(row, lots_in_gapped(cords, gapped)):
        number = number * len(lot) + lot.index(deed)
    return number


def gapped_between(cords, row, far_row):
    """The row with gaps of the least lots that both rows fill."""
    need_cords(cords)
    need_row(cords, row)
    if len(row) > MOST_ITEMS:
        raise BadRow(None)
    need_row(cords, far_row)
    if len(far_row) != len(row):
        raise BadRow(None)
    return tuple([tuple(sorted({deed, far_deed})) for deed, far_deed in zip(row, far_row)])
