"""POLYS: looks of any thing, sums, products, values, division, and what two share."""

from stepforms.errors import NoBack
from stepforms.fractions import fraction_over, fraction_sum, fraction_times, is_fraction

NOUGHT = (0, 1)


def is_poly(thing):
    """Tell of any thing whether it is a POLY."""
    if not isinstance(thing, tuple) or not all([is_fraction(part) for part in thing]):
        return False
    return thing == () or thing[-1] != NOUGHT


def trimmed(parts):
    """Tell the POLY of a list of FRACTIONS, noughts at its end left out."""
    end = len(parts)
    while end > 0 and parts[end - 1] == NOUGHT:
        end -= 1
    return tuple(parts[:end])


def fraction_at(poly, power):
    """Tell the POLY's FRACTION of the power, nought beyond its last one."""
    return poly[power] if power < len(poly) else NOUGHT


def poly_sum(one, other):
    """Tell the sum of two POLYS."""
    most = max(len(one), len(other))
    return trimmed([fraction_sum(fraction_at(one, power), fraction_at(other, power)) for power in range(most)])


def poly_times(one, other):
    """Tell the product of two POLYS."""
    if one == () or other == ():
        return ()
    parts = [NOUGHT] * (len(one) + len(other) - 1)
    for power, part in enumerate(one):
        for more, factor in enumerate(other):
            parts[power + more] = fraction_sum(parts[power + more], fraction_times(part, factor))
    return tuple(parts)


def poly_scaled(poly, fraction):
    """Tell the POLY times the FRACTION."""
    return trimmed([fraction_times(part, fraction) for part in poly])


def poly_value(poly, fraction):
    """Tell the VALUE of the POLY for the FRACTION."""
    total = NOUGHT
    for part in reversed(poly):
        total = fraction_sum(fraction_times(total, fraction), part)
    return total


def poly_less(one, other):
    """Tell the one POLY less the other."""
    return poly_sum(one, poly_scaled(other, (-1, 1)))


def poly_over(one, other):
    """Tell (quotient, rest) of the one POLY divided by the other; refuse by () with NoBack."""
    if other == ():
        raise NoBack(other)
    quotient = ()
    rest = one
    while len(rest) >= len(other):
        part = (NOUGHT,) * (len(rest) - len(other)) + (fraction_over(rest[-1], other[-1]),)
        quotient = poly_sum(quotient, part)
        rest = poly_less(rest, poly_times(part, other))
    return (quotient, rest)


def made_monic(polys):
    """Tell the POLYS, all times the FRACTION that makes the first MONIC."""
    if polys[0] == ():
        return polys
    fraction = fraction_over((1, 1), polys[0][-1])
    return tuple([poly_scaled(poly, fraction) for poly in polys])


def poly_shared(one, other):
    """Tell (part, one, other) SHARED by two POLYS: the two times these, added, are part."""
    # Each of both is such a tuple for what it begins with, and stays so: MONIC each time, so that numbers stay small.
    ahead = made_monic((one, ((1, 1),), ()))
    behind = made_monic((other, (), ((1, 1),)))
    while behind[0] != ():
        quotient = poly_over(ahead[0], behind[0])[0]
        left = tuple([poly_less(poly, poly_times(quotient, more)) for poly, more in zip(ahead, behind)])
        ahead, behind = behind, made_monic(left)
    return ahead
