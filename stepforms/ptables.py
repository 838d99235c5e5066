"""PTABLES: looks of any thing, products, and tables turned over."""

from stepforms.fractions import is_number
from stepforms.polys import is_poly, poly_sum, poly_times
from stepforms.tables import turned_over

ONE = ((1, 1),)


def is_prow(wide, thing):
    """Tell of any thing whether it is a tuple of just so many POLYS."""
    # A wide may be very great: it is compared with what is there, never gone along.
    if not isinstance(thing, tuple) or len(thing) != wide:
        return False
    return all([is_poly(poly) for poly in thing])


def is_ptable(thing):
    """Tell of any thing whether it is a PTABLE."""
    if not isinstance(thing, tuple) or len(thing) != 2:
        return False
    wide, rows = thing
    if not is_number(wide) or wide < 0 or not isinstance(rows, tuple):
        return False
    return all([is_prow(wide, row) for row in rows])


def is_ptable_of(many, wide, thing):
    """Tell of any thing whether it is a PTABLE of so many rows, so wide."""
    return is_ptable(thing) and thing[0] == wide and len(thing[1]) == many


def punit(n):
    """Tell the PUNIT of n."""
    return (n, tuple([punit_row(n, k) for k in range(n)]))


def punit_row(n, k):
    """Tell the row k of the PUNIT of n."""
    return tuple([ONE if column == k else () for column in range(n)])


def is_pnought(row):
    """Tell whether all POLYS of the row are ()."""
    return all([poly == () for poly in row])


def prow_sum(one, other):
    """Tell two rows of as many POLYS added."""
    return tuple([poly_sum(poly, more) for poly, more in zip(one, other)])


def prow_scaled(row, factor):
    """Tell the row of POLYS times the POLY."""
    return tuple([poly_times(factor, poly) for poly in row])


def prow_times(row, table):
    """Tell the row of POLYS TIMES the PTABLE of as many rows."""
    wide, rows = table
    total = ((),) * wide
    for factor, other in zip(row, rows):
        if factor != ():
            total = prow_sum(total, prow_scaled(other, factor))
    return total


def ptimes(one, other):
    """Tell the one PTABLE TIMES the other, which has as many rows as the one is wide."""
    return (other[0], tuple([prow_times(row, other) for row in one[1]]))


def pturned_over(table):
    """Tell the PTABLE whose rows are the columns of this one."""
    return turned_over(table)
