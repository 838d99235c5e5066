"""What is left of a POINT by a table in STEPS, and the parts that bar it from the LATTICE."""

from stepforms.fractions import fraction_of, fraction_times, row_parts
from stepforms.stepchecker import lead_of
from stepforms.tables import row_scaled, row_sum


def divided_by(form, point):
    """Tell (numbers, rest) of a POINT by a table in STEPS: the numbers TIMES it and the rest, added, are the POINT."""
    rest = point
    numbers = []
    for row in form[1]:
        lead = lead_of(row)
        number = 0 if lead is None else rest[lead] // row[lead]
        numbers.append(number)
        rest = row_sum(rest, row_scaled(row, -number))
    return (tuple(numbers), rest)


def rest_by(form, point):
    """Tell the REST of the POINT by a table in STEPS: NOUGHT just where the POINT is in the LATTICE."""
    return divided_by(form, point)[1]


def part_at(form, rest, column):
    """Tell the part for the rest's LEAD, by which its number there isn't whole."""
    for row in form[1]:
        if lead_of(row) == column:
            # The rest's number is from 1 to below this one, so that the row becomes whole and the rest does not.
            return (1, row[column])
    return fraction_of(1, 2 * rest[column])


def bar_parts(form, rest):
    """Tell parts by which each row of a table in STEPS is whole, but not a rest by it that isn't NOUGHT."""
    column = lead_of(rest)
    parts = [(0, 1)] * form[0]
    parts[column] = part_at(form, rest, column)
    # From the last row to the first, as what is set for a row's LEAD stands ahead of all LEADS of rows behind it.
    for row in reversed(form[1]):
        lead = lead_of(row)
        if lead is not None and lead < column:
            parts[lead] = fraction_times(row_parts(row, parts), fraction_of(-1, row[lead]))
    return tuple(parts)
