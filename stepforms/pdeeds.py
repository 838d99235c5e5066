"""PDEEDS: rows exchanged, multiplied, put to one another; done, as tables, and led back."""

from stepforms.deeds import are_two_rows, is_row_number
from stepforms.errors import NoDeed
from stepforms.fractions import fraction_over, is_fraction
from stepforms.polys import is_poly, poly_scaled
from stepforms.ptables import prow_scaled, prow_sum, punit

MOST_DEEDS = 40
MOST_DEGREE = 2


def is_factor(thing):
    """Tell of any thing whether it is a FRACTION but nought."""
    return is_fraction(thing) and thing != (0, 1)


def is_low_poly(thing):
    """Tell of any thing whether it is a POLY of no greater DEGREE than a PDEED may have."""
    return is_poly(thing) and len(thing) - 1 <= MOST_DEGREE


def is_pdeed(many, thing):
    """Tell of any thing whether it is one of PDEEDS for so many rows."""
    if not isinstance(thing, tuple) or len(thing) < 3:
        return False
    word = thing[0]
    if word == "swap":
        return len(thing) == 3 and are_two_rows(many, thing[1], thing[2])
    if word == "times":
        return len(thing) == 3 and is_row_number(many, thing[1]) and is_factor(thing[2])
    if word == "add":
        return len(thing) == 4 and are_two_rows(many, thing[1], thing[2]) and is_low_poly(thing[3])
    return False


def refuse_other_than_pdeeds(many, thing):
    """Refuse any thing that is no PDEEDS for so many rows."""
    if not isinstance(thing, tuple) or len(thing) > MOST_DEEDS:
        raise NoDeed(-1)
    for place, deed in enumerate(thing):
        if not is_pdeed(many, deed):
            raise NoDeed(place)


def do_pdeed(rows, deed):
    """Do one of PDEEDS on a list of rows."""
    word = deed[0]
    i = deed[1]
    if word == "swap":
        j = deed[2]
        rows[i], rows[j] = rows[j], rows[i]
    elif word == "times":
        rows[i] = prow_scaled(rows[i], (deed[2],))
    else:
        rows[i] = prow_sum(rows[i], prow_scaled(rows[deed[2]], deed[3]))


def pdone(table, thing):
    """Tell the PTABLE behind the PDEEDS; refuse any thing that is none with NoDeed."""
    wide, rows = table
    refuse_other_than_pdeeds(len(rows), thing)
    led = list(rows)
    for deed in thing:
        do_pdeed(led, deed)
    return (wide, tuple(led))


def pdeeds_table(many, deeds):
    """Tell the PUNIT of so many rows behind the PDEEDS; refuse any thing that is none with NoDeed."""
    return pdone(punit(many), deeds)


def contrary_pdeed(deed):
    """Tell the one of PDEEDS that undoes this one."""
    if deed[0] == "times":
        word, i, factor = deed
        return (word, i, fraction_over((1, 1), factor))
    if deed[0] == "add":
        word, i, j, poly = deed
        return (word, i, j, poly_scaled(poly, (-1, 1)))
    return deed


def pled_back(deeds):
    """Tell the PDEEDS, as many, that lead back what these led."""
    return tuple([contrary_pdeed(deed) for deed in reversed(deeds)])
