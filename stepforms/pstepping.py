"""PSTEPS made: the form of a table of POLYS in PSTEPS, and a PSTEPS paper."""

from stepforms.fractions import common_divisor, fraction_of
from stepforms.pcorners import pback_of
from stepforms.polys import shared_bottom, tops_over, trimmed
from stepforms.pstepchecker import plead_of
from stepforms.ptables import punit

# While they are led, rows are WHOLE: each is some row of POLYS times a FRACTION, such that it has NUMBERS without a
# common divisor in the place of FRACTIONS. So they stay small, and which FRACTION it is need not be known: at the end
# each row's LEAD is made MONIC.


def lessened(row):
    """Tell the row of whole POLYS divided by the greatest NUMBER that divides all of it."""
    shared = 0
    for poly in row:
        for number in poly:
            shared = common_divisor(shared, number)
            if shared == 1:
                return row
    return tuple([tuple([number // shared for number in poly]) for poly in row])


def whole_row(row):
    """Tell the WHOLE row of a row of POLYS."""
    shared = shared_bottom([part for poly in row for part in poly])
    return lessened(tuple([tuple(tops_over(poly, shared)) for poly in row]))


def monic_row(row):
    """Tell the row of POLYS that a WHOLE row stands for, MONIC at its LEAD."""
    lead = plead_of(row)
    if lead is None:
        return row
    number = row[lead][-1]
    return tuple([tuple([fraction_of(top, number) for top in poly]) for poly in row])


def crossed_poly(one, factor, other, more, shift):
    """Tell the whole POLY times the factor, less the other one times more, its powers raised by the shift."""
    numbers = [0] * max(len(one), len(other) + shift)
    for power, number in enumerate(one):
        numbers[power] = factor * number
    for power, number in enumerate(other):
        numbers[power + shift] -= more * number
    return trimmed(numbers, 0)


def crossed(row, other, column):
    """Tell the WHOLE row less the other so often that its POLY in the column, of no lesser DEGREE, becomes lesser."""
    factor = other[column][-1]
    more = row[column][-1]
    shift = len(row[column]) - len(other[column])
    return lessened(tuple([crossed_poly(poly, factor, less, more, shift) for poly, less in zip(row, other)]))


def greatest_two(rows, top, column):
    """Tell which two rows, from top on, have the greatest POLYS in the column, the greater first; None of fewer."""
    found = [at for at in range(top, len(rows)) if rows[at][column] != ()]
    if len(found) < 2:
        return None
    found = sorted(found, key=lambda at: len(rows[at][column]))
    return (found[-1], found[-2])


def lead_below(rows, top, column):
    """Lead the list of WHOLE rows until, from row top on, only row top has a POLY but () in the column."""
    pair = greatest_two(rows, top, column)
    while pair is not None:
        # The greatest by the next one, not by the least one: what is left of it has fewer figures so.
        at, other = pair
        rows[at] = crossed(rows[at], rows[other], column)
        pair = greatest_two(rows, top, column)
    for at in range(top + 1, len(rows)):
        if rows[at][column] != ():
            rows[top], rows[at] = rows[at], rows[top]


def lead_above(rows, top, column):
    """Lead the list of WHOLE rows until each POLY above that of row top has a lesser DEGREE."""
    for at in range(top):
        while len(rows[at][column]) >= len(rows[top][column]):
            rows[at] = crossed(rows[at], rows[top], column)


def led_rows(wide, rows):
    """Tell the rows of POLYS, so wide or wider, led as rows until so many columns are in PSTEPS."""
    led = [whole_row(row) for row in rows]
    top = 0
    for column in range(wide):
        # Without a row left there is no LEAD to come, however wide the table is.
        if top == len(led):
            break
        lead_below(led, top, column)
        if led[top][column] != ():
            lead_above(led, top, column)
            top += 1
    return [monic_row(row) for row in led]


def psteps_of(table):
    """Tell the form of the table in PSTEPS."""
    wide, rows = table
    return (wide, tuple(led_rows(wide, rows)))


def psteps_paper(table):
    """Tell a PSTEPS paper of the table."""
    wide, rows = table
    many = len(rows)
    # The rows of the PUNIT go along behind the table's, and become the table that leads there.
    led = led_rows(wide, [row + more for row, more in zip(rows, punit(many)[1])])
    there = (many, tuple([row[wide:] for row in led]))
    return ("psteps", (wide, tuple([row[:wide] for row in led])), there, pback_of(there))
