"""What the checkers share: looks at shapes and at parts, products row by row, and the refusal."""

from stepforms.errors import NoPaper
from stepforms.fractions import is_fraction, row_parts
from stepforms.tables import is_table


def is_paper(word, size, thing):
    """Tell of any thing whether it is a tuple of so many things, the first of them the word."""
    return isinstance(thing, tuple) and len(thing) == size and thing[0] == word


def is_table_of(many, wide, thing):
    """Tell of any thing whether it is a TABLE of so many rows, so wide."""
    return is_table(thing) and thing[0] == wide and len(thing[1]) == many


def are_parts(wide, thing):
    """Tell of any thing whether it is a tuple of so many FRACTIONS."""
    return isinstance(thing, tuple) and len(thing) == wide and all([is_fraction(part) for part in thing])


def is_whole_by(row, parts):
    """Tell whether the ROW is whole by parts."""
    return row_parts(row, parts)[1] == 1


def first_not_whole(table, parts):
    """Tell the least row of the TABLE that isn't whole by parts, None where there is none."""
    for at, row in enumerate(table[1]):
        if not is_whole_by(row, parts):
            return at
    return None


def first_unlike(things, others):
    """Tell the least place at which two tuples of as many things aren't alike, None where there is none."""
    for at, thing in enumerate(things):
        if thing != others[at]:
            return at
    return None


def first_unlike_row(one, other):
    """Tell the least number of a row that isn't alike in two TABLES of as many rows, None where there is none."""
    return first_unlike(one[1], other[1])


def refuse_at(word, number):
    """Refuse a paper at this number, unless it is None."""
    if number is not None:
        raise NoPaper(word, number)
