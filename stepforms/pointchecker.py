"""The checker of POINT papers."""

from stepforms.errors import NoPaper
from stepforms.papers import are_parts, first_not_whole, first_unlike, is_paper, is_whole_by, refuse_at
from stepforms.tables import is_row, row_times


def refuse_other_sum(table, point, numbers):
    """Refuse a ROW of numbers that TIMES the table isn't the POINT, with the first column that is unlike."""
    refuse_at("sum", first_unlike(row_times(numbers, table), point))


def refuse_unbarred(table, point, parts):
    """Refuse parts by which a row of the table isn't whole, or the POINT is."""
    refuse_at("part", first_not_whole(table, parts))
    if is_whole_by(point, parts):
        raise NoPaper("whole", 0)


def lets_point(table, point, thing):
    """Tell True of a POINT paper of the table and the POINT; refuse any other thing with NoPaper."""
    if is_paper("in", 2, thing) and is_row(len(table[1]), thing[1]):
        refuse_other_sum(table, point, thing[1])
    elif is_paper("out", 2, thing) and are_parts(table[0], thing[1]):
        refuse_unbarred(table, point, thing[1])
    else:
        raise NoPaper("shape", 0)
    return True
