"""The checker of ALIKE PAPERS and APART PAPERS."""

from stepforms.errors import NoPaper
from stepforms.fractions import is_number
from stepforms.papers import are_parts, first_not_whole, first_unlike_row, is_paper, is_table_of, is_whole_by, refuse_at
from stepforms.tables import times


def has_alike_shape(one, other, thing):
    """Tell of any thing whether it has the shape of an ALIKE PAPER of the two tables."""
    if not is_paper("alike", 3, thing):
        return False
    word, over, again = thing
    many = len(one[1])
    others = len(other[1])
    return is_table_of(others, many, over) and is_table_of(many, others, again)


def has_apart_shape(one, other, thing):
    """Tell of any thing whether it has the shape of an APART PAPER of the two tables."""
    if not is_paper("apart", 4, thing):
        return False
    word, side, row, parts = thing
    if not is_number(side) or side not in (0, 1) or not is_number(row):
        return False
    rows = (one, other)[side][1]
    return 0 <= row < len(rows) and are_parts(one[0], parts)


def lets_alike(one, other, thing):
    """Tell True of an ALIKE PAPER and of an APART PAPER of the two tables; refuse any other thing with NoPaper."""
    if has_alike_shape(one, other, thing):
        word, over, again = thing
        refuse_at("over", first_unlike_row(times(over, one), other))
        refuse_at("again", first_unlike_row(times(again, other), one))
        return True
    if not has_apart_shape(one, other, thing):
        raise NoPaper("shape", 0)
    word, side, row, parts = thing
    refuse_at("part", first_not_whole((other, one)[side], parts))
    if is_whole_by((one, other)[side][1][row], parts):
        raise NoPaper("whole", row)
    return True
