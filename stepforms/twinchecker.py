"""The checker of papers that two tables of numbers are TWINS, or strangers."""

from stepforms.characters import character_of, ptable_of
from stepforms.errors import NoPaper
from stepforms.papers import first_unlike_row, is_paper, refuse_at
from stepforms.proundchecker import lets_prounds
from stepforms.ptables import is_ptable_of, ptimes, punit


def is_plain(many, thing):
    """Tell of any thing whether it is a PLAIN PTABLE of so many rows."""
    return is_ptable_of(many, many, thing) and all([len(poly) <= 1 for row in thing[1] for poly in row])


def has_twins_shape(many, thing):
    """Tell of any thing whether it has the shape of a "twins" paper of tables of so many rows."""
    return is_paper("twins", 3, thing) and is_plain(many, thing[1]) and is_plain(many, thing[2])


def is_let_by(table, thing):
    """Tell of any thing whether it is a PROUNDS paper of the CHARACTER of the table that is let by."""
    try:
        return lets_prounds(character_of(table), thing)
    except NoPaper:
        return False


def refuse_like(one, other, paper):
    """Refuse a "strangers" paper that doesn't tell unlike forms of the CHARACTERS of the two tables."""
    word, first, second = paper
    if not is_let_by(one, first):
        raise NoPaper("one", 0)
    if not is_let_by(other, second):
        raise NoPaper("other", 0)
    if first[1] == second[1]:
        raise NoPaper("forms", 0)


def lets_twins(one, other, thing):
    """Tell True of a paper that the two tables are TWINS, or strangers; refuse any other thing with NoPaper."""
    many = len(one[1])
    if has_twins_shape(many, thing):
        word, over, back = thing
        refuse_at("over", first_unlike_row(ptimes(ptable_of(one), over), ptimes(over, ptable_of(other))))
        refuse_at("back", first_unlike_row(ptimes(over, back), punit(many)))
    elif is_paper("strangers", 3, thing):
        refuse_like(one, other, thing)
    else:
        raise NoPaper("shape", 0)
    return True
