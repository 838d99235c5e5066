"""Tables of POLYS, PALIKE or not: a paper for it."""

from stepforms.palikechecker import rows_in_use
from stepforms.pstepping import psteps_paper
from stepforms.ptables import ptimes


def over_ptable(paper, other):
    """Tell a PTABLE that TIMES the table of a PSTEPS paper is that of another one, both with one form in use."""
    # The paper's there leads to the rows in use, the other one's back from them: what they make of NOUGHT rows is left.
    rank = len(rows_in_use(paper[1]))
    there = paper[2]
    back = other[3]
    return ptimes((rank, tuple([row[:rank] for row in back[1]])), (there[0], there[1][:rank]))


def palike_paper(one, other):
    """Tell a paper that two tables as wide are PALIKE where they are, else one that they aren't."""
    first = psteps_paper(one)
    second = psteps_paper(other)
    if rows_in_use(first[1]) != rows_in_use(second[1]):
        return ("punlike", first, second)
    return ("palike", over_ptable(first, second), over_ptable(second, first))
