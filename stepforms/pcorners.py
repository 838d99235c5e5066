"""CORNERS of tables of POLYS, and BACKS of square ones."""

from stepforms.backs import without
from stepforms.errors import NoBack
from stepforms.fractions import fraction_over
from stepforms.polys import poly_scaled, poly_sum, poly_times
from stepforms.ptables import ONE, pturned_over


def signed(poly, count):
    """Tell the POLY, with turned sign where the count is odd."""
    return poly if count % 2 == 0 else poly_scaled(poly, (-1, 1))


def with_next_row(corners, row):
    """Tell a dict of the CORNERS of rows and one more behind them, by columns, of that of the rows without it."""
    found = {}
    for columns in corners:
        for column, poly in enumerate(row):
            # What is () is passed over, so that a table with few other POLYS has few CORNERS to go through.
            if poly == () or column in columns:
                continue
            ahead = len([other for other in columns if other > column])
            chosen = tuple(sorted(columns + (column,)))
            part = signed(poly_times(corners[columns], poly), ahead)
            found[chosen] = poly_sum(found.get(chosen, ()), part)
    return found


def pcorner(table):
    """Tell the CORNER of a SQUARE PTABLE."""
    wide, rows = table
    corners = {(): ONE}
    for row in rows:
        corners = with_next_row(corners, row)
    return corners.get(tuple(range(wide)), ())


def corner_without(table, i, j):
    """Tell the CORNER of the SQUARE PTABLE without its row i and its column j."""
    wide, rows = table
    return pcorner((wide - 1, tuple([without(row, j) for row in without(rows, i)])))


def pback_of(table):
    """Tell the BACK of a SQUARE PTABLE; refuse one without with NoBack."""
    corner = pcorner(table)
    if len(corner) != 1:
        raise NoBack(corner)
    many = table[0]
    part = fraction_over((1, 1), corner[0])
    columns = [[signed(corner_without(table, i, j), i + j) for j in range(many)] for i in range(many)]
    return pturned_over((many, tuple([tuple([poly_scaled(poly, part) for poly in column]) for column in columns])))
