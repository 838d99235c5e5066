"""PROUNDS looked at, and the checker of PROUNDS papers."""

from stepforms.errors import NoPaper
from stepforms.papers import first_unlike_row, is_paper, refuse_at
from stepforms.polys import is_monic, poly_over
from stepforms.ptables import is_pnought, is_ptable, is_ptable_of, ptimes, punit


def pdivides(one, other):
    """Tell whether the other POLY is some POLY times the one: of () that is () alone."""
    return other == () if one == () else poly_over(other, one)[1] == ()


def is_bare(row, at):
    """Tell whether all POLYS of the row at this place but that on the way down are ()."""
    return is_pnought(row[:at]) and is_pnought(row[at + 1:])


def goes_round(rows, at):
    """Tell whether the row at this place goes on in PROUNDS with the rows ahead, which are in PROUNDS."""
    row = rows[at]
    if not is_bare(row, at):
        return False
    if at >= len(row):
        return True
    down = row[at]
    if down != () and not is_monic(down):
        return False
    return at == 0 or pdivides(rows[at - 1][at - 1], down)


def first_out_of_prounds(table):
    """Tell the least row with which the rows from row 0 to it are not in PROUNDS, None where there is none."""
    rows = table[1]
    for at in range(len(rows)):
        if not goes_round(rows, at):
            return at
    return None


def is_prounds(thing):
    """Tell of any thing whether it is a PTABLE in PROUNDS."""
    return is_ptable(thing) and first_out_of_prounds(thing) is None


def has_prounds_shape(table, thing):
    """Tell of any thing whether it has the shape of a PROUNDS paper of the table."""
    if not is_paper("prounds", 6, thing):
        return False
    wide = table[0]
    many = len(table[1])
    word, form, left, left_back, right, right_back = thing
    if not is_ptable_of(many, wide, form):
        return False
    if not is_ptable_of(many, many, left) or not is_ptable_of(many, many, left_back):
        return False
    return is_ptable_of(wide, wide, right) and is_ptable_of(wide, wide, right_back)


def lets_prounds(table, thing):
    """Tell True of a PROUNDS paper of the table; refuse any other thing with NoPaper."""
    if not has_prounds_shape(table, thing):
        raise NoPaper("shape", 0)
    word, form, left, left_back, right, right_back = thing
    refuse_at("form", first_out_of_prounds(form))
    refuse_at("middle", first_unlike_row(ptimes(ptimes(left, table), right), form))
    refuse_at("left", first_unlike_row(ptimes(left, left_back), punit(len(table[1]))))
    refuse_at("right", first_unlike_row(ptimes(right, right_back), punit(table[0])))
    return True
