"""The checker of EQUAL PAPERS."""

from stepforms.errors import NoPaper
from stepforms.papers import is_paper, is_table_of
from stepforms.roundchecker import lets_rounds
from stepforms.tables import is_unit, times


def has_equal_shape(table, thing):
    """Tell of any thing whether it has the shape of an "equal" paper of tables as many rows and as wide as this."""
    if not is_paper("equal", 5, thing):
        return False
    wide = table[0]
    many = len(table[1])
    word, left, left_back, right, right_back = thing
    if not is_table_of(many, many, left) or not is_table_of(many, many, left_back):
        return False
    return is_table_of(wide, wide, right) and is_table_of(wide, wide, right_back)


def is_let_by(table, thing):
    """Tell of any thing whether it is a rounds paper of the table that is let by."""
    try:
        return lets_rounds(table, thing)
    except NoPaper:
        return False


def refuse_unled(one, other, paper):
    """Refuse an "equal" paper, right in its shape, that doesn't lead the one table to the other."""
    word, left, left_back, right, right_back = paper
    if not is_unit(times(left, left_back)):
        raise NoPaper("left", 2)
    if not is_unit(times(right, right_back)):
        raise NoPaper("right", 4)
    if times(times(left, one), right) != other:
        raise NoPaper("product", 1)


def refuse_like(one, other, paper):
    """Refuse an "unequal" paper that doesn't tell unlike ROUNDS of the two tables."""
    word, first, second = paper
    if not is_let_by(one, first):
        raise NoPaper("first", 1)
    if not is_let_by(other, second):
        raise NoPaper("second", 2)
    if first[1] == second[1]:
        raise NoPaper("like", 0)


def lets_equal(one, other, thing):
    """Tell True of an EQUAL PAPER of the two tables; refuse any other thing with NoPaper."""
    if has_equal_shape(one, thing):
        refuse_unled(one, other, thing)
    elif is_paper("unequal", 3, thing):
        refuse_like(one, other, thing)
    else:
        raise NoPaper("shape", 0)
    return True
