"""ROUNDS looked at, and the checker of ROUNDS PAPERS."""

from stepforms.errors import NoPaper
from stepforms.papers import is_paper, is_table_of
from stepforms.tables import is_table, is_unit, times


def divides(one, other):
    """Tell whether the one NUMBER divides the other: 0 divides 0 alone."""
    return other == 0 if one == 0 else other % one == 0


def are_downs(downs):
    """Tell whether the numbers are from 0 on, each dividing the next one."""
    if any([down < 0 for down in downs]):
        return False
    return all([divides(down, downs[at + 1]) for at, down in enumerate(downs[:-1])])


def is_bare(rows):
    """Tell whether all numbers of the rows but those on the way down are 0."""
    return all([number == 0 for at, row in enumerate(rows) for column, number in enumerate(row) if column != at])


def downs_of(form):
    """Tell the DOWNS of ROUNDS: the tuple of the numbers on the way down."""
    wide, rows = form
    return tuple([rows[k][k] for k in range(min(wide, len(rows)))])


def is_rounds(thing):
    """Tell of any thing whether it is a TABLE in ROUNDS."""
    return is_table(thing) and is_bare(thing[1]) and are_downs(downs_of(thing))


def has_rounds_shape(table, thing):
    """Tell of any thing whether it has the shape of a ROUNDS PAPER of the table."""
    if not is_paper("rounds", 6, thing):
        return False
    wide = table[0]
    many = len(table[1])
    word, form, left, left_back, right, right_back = thing
    if not is_table_of(many, wide, form):
        return False
    if not is_table_of(many, many, left) or not is_table_of(many, many, left_back):
        return False
    return is_table_of(wide, wide, right) and is_table_of(wide, wide, right_back)


def lets_rounds(table, thing):
    """Tell True of a ROUNDS PAPER of the table; refuse any other thing with NoPaper."""
    if not has_rounds_shape(table, thing):
        raise NoPaper("shape", 0)
    word, form, left, left_back, right, right_back = thing
    if not is_rounds(form):
        raise NoPaper("rounds", 1)
    if not is_unit(times(left, left_back)):
        raise NoPaper("left", 3)
    if not is_unit(times(right, right_back)):
        raise NoPaper("right", 5)
    if times(times(left, table), right) != form:
        raise NoPaper("product", 1)
    return True
