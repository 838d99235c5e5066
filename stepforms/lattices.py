"""LATTICES: their FORMS, joins and common parts, one INSIDE another, and the INDEX."""

from stepforms.aliking import form_rows
from stepforms.points import rest_of
from stepforms.stepchecker import lead_of
from stepforms.tables import is_nought, stacked


def form_of(table):
    """Tell the FORM of the table: its STEPS table without the NOUGHT rows."""
    return (table[0], tuple(form_rows(table)))


def most_of(table):
    """Tell the MOST of the table, which no number of its STEPS table is above."""
    rows = table[1]
    most = len(rows)
    for row in rows:
        most *= max(1, sum([abs(number) for number in row]))
    return most


def joined(one, other):
    """Tell the FORM of the join of two tables as wide."""
    return form_of(stacked(one, other))


def common_part(one, other):
    """Tell the FORM of the common part of two tables as wide."""
    # Each row of the one stands twice, each of the other once: where the halves ahead cancel each other, a sum of the
    # one's rows is one of the other's, and the half behind tells it.
    wide = one[0]
    ahead = [row + row for row in form_rows(one)]
    behind = [row + (0,) * wide for row in form_rows(other)]
    rows = form_rows((2 * wide, tuple(ahead + behind)))
    return form_of((wide, tuple([row[wide:] for row in rows if is_nought(row[:wide])])))


def inside(one, other):
    """Tell whether the one table is INSIDE the other, which is as wide."""
    return all([is_nought(rest_of(other, row)) for row in one[1]])


def lead_product(rows):
    """Tell the product of the numbers at the LEADS of the rows, none of them NOUGHT."""
    product = 1
    for row in rows:
        product *= row[lead_of(row)]
    return product


def index_of(one, other):
    """Tell the INDEX of the one table in the other: None where it isn't INSIDE, 0 where it is endless."""
    if not inside(one, other):
        return None
    rows = form_rows(one)
    others = form_rows(other)
    if len(rows) != len(others):
        return 0
    # Of as many rows and INSIDE, so both have the same LEADS, and a REST by the one is chosen LEAD by LEAD.
    return lead_product(rows) // lead_product(others)
