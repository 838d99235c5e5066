"""The checker of SHORT PAPERS."""

from stepforms.errors import NoPaper
from stepforms.papers import first_unlike_row, is_paper, is_table_of, refuse_at
from stepforms.tables import times


def row_product(one, other):
    """Tell the product of two ROWS of as many numbers."""
    return sum([number * more for number, more in zip(one, other)])


def length_of(row):
    """Tell the length of the ROW: its product with itself."""
    return row_product(row, row)


def has_short_shape(table, thing):
    """Tell of any thing whether it has the shape of a SHORT PAPER of the table."""
    if not is_paper("short", 4, thing):
        return False
    word, short, over, again = thing
    return is_table_of(2, table[0], short) and is_table_of(2, 2, over) and is_table_of(2, 2, again)


def lets_short(table, thing):
    """Tell True of a SHORT PAPER of the table of two rows; refuse any other thing with NoPaper."""
    if not has_short_shape(table, thing):
        raise NoPaper("shape", 0)
    word, short, over, again = thing
    refuse_at("over", first_unlike_row(times(over, table), short))
    refuse_at("again", first_unlike_row(times(again, short), table))
    a, b = short[1]
    if length_of(a) > length_of(b):
        raise NoPaper("order", 0)
    if 2 * abs(row_product(a, b)) > length_of(a):
        raise NoPaper("slant", 0)
    return True
