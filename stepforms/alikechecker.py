"""The checker of ALIKE PAPERS and APART PAPERS."""

from stepforms.errors import NoPaper
from stepforms.fractions import is_fraction, is_number, row_parts
from stepforms.papers import first_unlike_row, is_paper, is_table_of, refuse_at
from stepforms.tables import times


def are_parts(wide, thing):
    """Tell of any thing whether it is a tuple of so many FRACTIONS."""
    return isinstance(thing, tuple) and len(thing) == wide and all([is_fraction(part) for part in thing])


def is_whole_by(row, parts):
    """Tell whether the ROW is whole by parts."""
    return row_parts(row, parts)[1] == 1


def first_not_whole(table, parts):
    """Tell the least row of the TABLE that isn't whole by parts, None where there is none."""
    for at, row in enumerate(table[1]):
        if not is_whole_by(row, parts):
            return at
    return None


def has_alike_shape(one, other, thing):
    """Tell of any thing whether it has the shape of an ALIKE PAPER of the two tables."""
    if not is_paper("alike", 3, thing):
        return False
    word, over, again = thing
    many = len(one[1])
    others = len(other[1])
    return is_table_of(others, many, over) and is_table_of(many, others, again)


def has_apart_shape(one, other, thing):
    """Tell of any thing whether it has the shape of an APART PAPER of the two tables."""
    if not is_paper("apart", 4, thing):
        return False
    word, side, row, parts = thing
    if not is_number(side) or side not in (0, 1) or not is_number(row):
        return False
    rows = (one, other)[side][1]
    return 0 <= row < len(rows) and are_parts(one[0], parts)


def lets_alike(one, other, thing):
    """Tell True of an ALIKE PAPER and of an APART PAPER of the two tables; refuse any other thing with NoPaper."""
    if has_alike_shape(one, other, thing):
        word, over, again = thing
        refuse_at("over", first_unlike_row(times(over, one), other))
        refuse_at("again", first_unlike_row(times(again, other), one))
        return True
    if not has_apart_shape(one, other, thing):
        raise NoPaper("shape", 0)
    word, side, row, parts = thing
    refuse_at("part", first_not_whole((other, one)[side], parts))
    if is_whole_by((one, other)[side][1][row], parts):
        raise NoPaper("whole", row)
    return True
