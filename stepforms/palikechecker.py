"""The checker of papers that two tables of POLYS are PALIKE, or aren't."""

from stepforms.errors import NoPaper
from stepforms.papers import first_unlike_row, is_paper, refuse_at
from stepforms.pstepchecker import lets_psteps
from stepforms.ptables import is_pnought, is_ptable_of, ptimes


def has_palike_shape(one, other, thing):
    """Tell of any thing whether it has the shape of a "palike" paper of the two tables."""
    if not is_paper("palike", 3, thing):
        return False
    word, over, again = thing
    many = len(one[1])
    others = len(other[1])
    return is_ptable_of(others, many, over) and is_ptable_of(many, others, again)


def is_let_by(table, thing):
    """Tell of any thing whether it is a PSTEPS paper of the table that is let by."""
    try:
        return lets_psteps(table, thing)
    except NoPaper:
        return False


def rows_in_use(form):
    """Tell the list of the rows of a form in PSTEPS that aren't NOUGHT."""
    return [row for row in form[1] if not is_pnought(row)]


def refuse_like(one, other, paper):
    """Refuse a "punlike" paper that doesn't tell unlike forms of the two tables."""
    word, first, second = paper
    if not is_let_by(one, first):
        raise NoPaper("one", 0)
    if not is_let_by(other, second):
        raise NoPaper("other", 0)
    if rows_in_use(first[1]) == rows_in_use(second[1]):
        raise NoPaper("forms", 0)


def lets_palike(one, other, thing):
    """Tell True of a paper that the two tables are PALIKE, or that they aren't; refuse any other thing with NoPaper."""
    if has_palike_shape(one, other, thing):
        word, over, again = thing
        refuse_at("over", first_unlike_row(ptimes(over, one), other))
        refuse_at("again", first_unlike_row(ptimes(again, other), one))
    elif is_paper("punlike", 3, thing):
        refuse_like(one, other, thing)
    else:
        raise NoPaper("shape", 0)
    return True
