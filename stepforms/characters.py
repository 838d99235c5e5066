"""CHARACTERS of tables of numbers, and POLYS AT such tables."""

from stepforms.polys import fraction_at, poly_scaled
from stepforms.ptables import ONE, prow_scaled, prow_sum, ptimes, punit


def poly_of(fraction):
    """Tell the POLY of DEGREE at most 0 that is the FRACTION."""
    return poly_scaled(ONE, fraction)


def ptable_of(table):
    """Tell the PTABLE of a TABLE of numbers."""
    wide, rows = table
    return (wide, tuple([tuple([poly_of((number, 1)) for number in row]) for row in rows]))


def character_of(table):
    """Tell the CHARACTER of a SQUARE TABLE."""
    wide, rows = table
    found = []
    for at, row in enumerate(rows):
        polys = [poly_of((-number, 1)) for number in row]
        polys[at] = ((-row[at], 1), (1, 1))
        found.append(tuple(polys))
    return (wide, tuple(found))


def layer(table, power):
    """Tell the PTABLE of the FRACTIONS that the POLYS of a PTABLE have for the power."""
    wide, rows = table
    return (wide, tuple([tuple([poly_of(fraction_at(poly, power)) for poly in row]) for row in rows]))


def layers_at(ptable, table):
    """Tell the sum of the layers of a SQUARE PTABLE, each behind as many times the TABLE as its power tells."""
    factor = ptable_of(table)
    many = ptable[0]
    rows = (((),) * many,) * many
    most = max([len(poly) for row in ptable[1] for poly in row], default=0)
    for power in range(most - 1, -1, -1):
        led = ptimes(factor, (many, rows))
        rows = tuple([prow_sum(row, more) for row, more in zip(led[1], layer(ptable, power)[1])])
    return (many, rows)


def poly_at(poly, table):
    """Tell the POLY AT a SQUARE TABLE."""
    many = table[0]
    return layers_at((many, tuple([prow_scaled(row, poly) for row in punit(many)[1]])), table)
