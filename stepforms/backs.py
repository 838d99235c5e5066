"""CORNERS of tables, and BACKS of square ones."""

from stepforms.errors import NoBack
from stepforms.tables import is_unit, times, turned_over


def choices(many, k):
    """Tell all rising tuples of k of the numbers from 0 to below many, in the order of Python's sorting."""
    found = [()]
    for size in range(k):
        found = [chosen + (n,) for chosen in found for n in range(many) if size == 0 or n > chosen[-1]]
    return found


def without(things, place):
    """Tell the tuple without what stands at the place."""
    return things[:place] + things[place + 1:]


def corner_by_first_row(row, columns, corners):
    """Tell the CORNER of the columns, of a row and of rows behind it whose CORNERS are told by their columns."""
    total = 0
    for place, column in enumerate(columns):
        part = row[column] * corners[without(columns, place)]
        if place % 2 == 0:
            total += part
        else:
            total -= part
    return total


def corners_by_columns(wide, rows):
    """Tell a dict of the CORNERS of all the rows: one for each choice of as many columns, by these columns."""
    # From the last row on, so that no CORNER within is reckoned twice: else their count grows as the factorial.
    corners = {(): 1}
    for size in range(1, len(rows) + 1):
        row = rows[-size]
        corners = {columns: corner_by_first_row(row, columns, corners) for columns in choices(wide, size)}
    return corners


def corner_of(table):
    """Tell the CORNER of a SQUARE TABLE."""
    wide, rows = table
    return corners_by_columns(wide, rows)[tuple(range(wide))]


def corners_of(table, k):
    """Tell the list of the CORNERS of size k, by rows and then by columns."""
    wide, rows = table
    if k > len(rows) or k > wide:
        return []
    found = []
    for chosen in choices(len(rows), k):
        corners = corners_by_columns(wide, tuple([rows[at] for at in chosen]))
        found.extend([corners[columns] for columns in choices(wide, k)])
    return found


def back_column(table, place, corner):
    """Tell the column of the BACK that comes of the table without the row at this place."""
    many, rows = table
    corners = corners_by_columns(many, without(rows, place))
    every = tuple(range(many))
    column = []
    for left_out in range(many):
        number = corners[without(every, left_out)] * corner
        column.append(number if (place + left_out) % 2 == 0 else -number)
    return tuple(column)


def back_of(table):
    """Tell the BACK of a SQUARE TABLE; refuse one without with NoBack."""
    corner = corner_of(table)
    if corner != 1 and corner != -1:
        raise NoBack(corner)
    many = table[0]
    columns = tuple([back_column(table, place, corner) for place in range(many)])
    return turned_over((many, columns))


def is_back(one, other):
    """Tell whether two TABLES are each other's BACK."""
    many = len(one[1])
    if one[0] != many or other[0] != many or len(other[1]) != many:
        return False
    return is_unit(times(one, other))
