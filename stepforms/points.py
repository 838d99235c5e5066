"""Points in a LATTICE or out of it: a POINT paper, and the REST of a POINT."""

from stepforms.bars import bar_parts, divided_by, rest_by
from stepforms.stepping import steps_of, steps_paper
from stepforms.tables import is_nought, row_times


def point_paper(table, point):
    """Tell a POINT paper of the table and the POINT: "in" where it is in the LATTICE, else "out"."""
    word, form, there, back = steps_paper(table)
    numbers, rest = divided_by(form, point)
    if is_nought(rest):
        return ("in", row_times(numbers, there))
    return ("out", bar_parts(form, rest))


def rest_of(table, point):
    """Tell the REST of the POINT by the table."""
    return rest_by(steps_of(table), point)
