"""ROWS and TABLES: looks of any thing, products, and tables turned over or stacked."""

from stepforms.fractions import is_number


def is_row(wide, thing):
    """Tell of any thing whether it is a ROW of just so many numbers."""
    # A wide may be very great: it is compared with what is there, never gone along.
    if not isinstance(thing, tuple) or len(thing) != wide:
        return False
    return all([is_number(number) for number in thing])


def is_table(thing):
    """Tell of any thing whether it is a TABLE."""
    if not isinstance(thing, tuple) or len(thing) != 2:
        return False
    wide, rows = thing
    if not is_number(wide) or wide < 0 or not isinstance(rows, tuple):
        return False
    return all([is_row(wide, row) for row in rows])


def is_unit(thing):
    """Tell of any thing whether it is a UNIT, of whatever n."""
    # Only where the rows are there is the wide no greater than the thing, so that a UNIT may be made of it.
    return is_table(thing) and thing[0] == len(thing[1]) and thing == unit(thing[0])


def unit(n):
    """Tell the UNIT of n."""
    return (n, tuple([unit_row(n, k) for k in range(n)]))


def unit_row(n, k):
    """Tell the row k of the UNIT of n."""
    return tuple([1 if column == k else 0 for column in range(n)])


def is_nought(row):
    """Tell whether all numbers of the ROW are 0."""
    return all([number == 0 for number in row])


def row_sum(one, other):
    """Tell two ROWS of as many numbers added."""
    return tuple([number + more for number, more in zip(one, other)])


def row_scaled(row, number):
    """Tell the ROW times the NUMBER."""
    return tuple([number * other for other in row])


def row_times(row, table):
    """Tell the ROW TIMES the TABLE of as many rows."""
    wide, rows = table
    return tuple([sum([number * other[k] for number, other in zip(row, rows)]) for k in range(wide)])


def times(one, other):
    """Tell the one TABLE TIMES the other, which has as many rows as the one is wide."""
    return (other[0], tuple([row_times(row, other) for row in one[1]]))


def turned_over(table):
    """Tell the TABLE whose rows are the columns of this one."""
    wide, rows = table
    return (len(rows), tuple([tuple([row[k] for row in rows]) for k in range(wide)]))


def stacked(one, other):
    """Tell the one TABLE's rows, then the other's, which is as wide."""
    return (one[0], one[1] + other[1])
