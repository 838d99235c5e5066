"""What the checkers share: looks at shapes, products row by row, and the refusal."""

from stepforms.errors import NoPaper
from stepforms.tables import is_table


def is_paper(word, size, thing):
    """Tell of any thing whether it is a tuple of so many things, the first of them the word."""
    return isinstance(thing, tuple) and len(thing) == size and thing[0] == word


def is_table_of(many, wide, thing):
    """Tell of any thing whether it is a TABLE of so many rows, so wide."""
    return is_table(thing) and thing[0] == wide and len(thing[1]) == many


def first_unlike_row(one, other):
    """Tell the least number of a row that isn't alike in two TABLES of as many rows, None where there is none."""
    for at, row in enumerate(one[1]):
        if row != other[1][at]:
            return at
    return None


def refuse_at(word, number):
    """Refuse a paper at this number, unless it is None."""
    if number is not None:
        raise NoPaper(word, number)
