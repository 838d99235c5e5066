"""ALIKE or apart: told of two tables, with a paper for it."""

from stepforms.bars import bar_parts, rest_by
from stepforms.stepping import rank_of, steps_of, steps_paper
from stepforms.tables import is_nought, times


def form_rows(table):
    """Tell the rows of the STEPS table that aren't NOUGHT."""
    return [row for row in steps_of(table)[1] if not is_nought(row)]


def are_alike(one, other):
    """Tell whether two tables as wide are ALIKE."""
    return form_rows(one) == form_rows(other)


def over_table(one, other):
    """Tell a TABLE that TIMES the one is the other, both being ALIKE."""
    # Both have the same rows in STEPS, as many as the rank: the one's there leads to them, the other's back from them.
    rank = rank_of(one)
    there = steps_paper(one)[2]
    back = steps_paper(other)[3]
    return times((rank, tuple([row[:rank] for row in back[1]])), (there[0], there[1][:rank]))


def row_apart(one, other):
    """Tell (row, parts) of the first row of the one that isn't in the other's LATTICE, None where all are."""
    form = steps_of(other)
    for at, row in enumerate(one[1]):
        rest = rest_by(form, row)
        if not is_nought(rest):
            return (at, bar_parts(form, rest))
    return None


def alike_paper(one, other):
    """Tell an ALIKE PAPER of two tables as wide where they are ALIKE, else an APART PAPER."""
    if are_alike(one, other):
        return ("alike", over_table(one, other), over_table(other, one))
    found = row_apart(one, other)
    if found is not None:
        return ("apart", 0) + found
    return ("apart", 1) + row_apart(other, one)
