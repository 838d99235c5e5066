"""PROUNDS made: the form of a table of POLYS in PROUNDS, and a PROUNDS paper."""

from stepforms.pdeeds import pdeeds_table, pled_back
from stepforms.proundchecker import first_out_of_prounds, is_bare, is_prounds
from stepforms.pstepping import psteps_paper
from stepforms.ptables import ONE, ptimes, pturned_over, punit


def turned_paper(paper):
    """Tell the PROUNDS paper of the table TURNED OVER, of that of the table; likewise one on the way to it."""
    word, form, left, left_back, right, right_back = paper
    tables = (form, right, right_back, left, left_back)
    return (word,) + tuple([pturned_over(table) for table in tables])


def led_paper(paper, there, back):
    """Tell the paper on the way, its form led on by rows by there, whose BACK is back."""
    word, form, left, left_back, right, right_back = paper
    return (word, ptimes(there, form), ptimes(there, left), ptimes(left_back, back), right, right_back)


def stepped_paper(paper):
    """Tell the paper on the way, its form led on by rows to PSTEPS."""
    word, form, there, back = psteps_paper(paper[1])
    return led_paper(paper, there, back)


def mixed_paper(paper, at):
    """Tell the paper on the way, row at of its form put to the row ahead."""
    many = len(paper[1][1])
    deeds = (("add", at - 1, at, ONE),)
    return led_paper(paper, pdeeds_table(many, deeds), pdeeds_table(many, pled_back(deeds)))


def next_paper(paper):
    """Tell the paper on the way, led on towards PROUNDS."""
    turned = turned_paper(stepped_paper(paper))
    turned = stepped_paper(turned)
    rows = turned[1][1]
    at = first_out_of_prounds(turned[1])
    if at is not None and all([is_bare(row, place) for place, row in enumerate(rows)]):
        # Only that the POLY of this row isn't some POLY times the one ahead is left: both, put into one row, are led
        # to what they share as soon as the paper is turned.
        turned = mixed_paper(turned, at)
    return turned_paper(turned)


def prounds_paper(table):
    """Tell a PROUNDS paper of the table."""
    wide, rows = table
    if wide > len(rows):
        # The longer side goes first: the more rows are led among themselves, the sooner they become small.
        return turned_paper(prounds_paper(pturned_over(table)))
    left = punit(len(rows))
    right = punit(wide)
    paper = ("prounds", table, left, left, right, right)
    while not is_prounds(paper[1]):
        paper = next_paper(paper)
    return paper


def prounds_of(table):
    """Tell the form of the table in PROUNDS."""
    return prounds_paper(table)[1]
