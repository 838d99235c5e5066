"""PSTEPS looked at, and the checker of PSTEPS papers."""

from stepforms.errors import NoPaper
from stepforms.papers import first_unlike_row, is_paper, refuse_at
from stepforms.polys import is_monic
from stepforms.ptables import is_ptable, is_ptable_of, ptimes, punit


def plead_of(row):
    """Tell the LEAD of the row of POLYS, None where it is NOUGHT."""
    for column, poly in enumerate(row):
        if poly != ():
            return column
    return None


def goes_on(rows, at):
    """Tell whether the row at this place goes on in PSTEPS with the rows ahead, which are in PSTEPS."""
    lead = plead_of(rows[at])
    if lead is None:
        return True
    if at > 0:
        lead_ahead = plead_of(rows[at - 1])
        if lead_ahead is None or lead_ahead >= lead:
            return False
    poly = rows[at][lead]
    return is_monic(poly) and all([len(row[lead]) < len(poly) for row in rows[:at]])


def first_out_of_psteps(table):
    """Tell the least row with which the rows from row 0 to it are not in PSTEPS, None where there is none."""
    rows = table[1]
    for at in range(len(rows)):
        if not goes_on(rows, at):
            return at
    return None


def is_psteps(thing):
    """Tell of any thing whether it is a PTABLE in PSTEPS."""
    return is_ptable(thing) and first_out_of_psteps(thing) is None


def has_psteps_shape(table, thing):
    """Tell of any thing whether it has the shape of a PSTEPS paper of the table."""
    if not is_paper("psteps", 4, thing):
        return False
    many = len(table[1])
    word, form, there, back = thing
    return is_ptable_of(many, table[0], form) and is_ptable_of(many, many, there) and is_ptable_of(many, many, back)


def lets_psteps(table, thing):
    """Tell True of a PSTEPS paper of the table; refuse any other thing with NoPaper."""
    if not has_psteps_shape(table, thing):
        raise NoPaper("shape", 0)
    word, form, there, back = thing
    refuse_at("form", first_out_of_psteps(form))
    refuse_at("there", first_unlike_row(ptimes(there, table), form))
    refuse_at("back", first_unlike_row(ptimes(there, back), punit(len(table[1]))))
    return True
