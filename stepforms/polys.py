"""POLYS: looks of any thing, sums, products, values, division, and what two share."""

from stepforms.errors import NoBack
from stepforms.fractions import common_divisor, fraction_of, fraction_over, fraction_sum, fraction_times, is_fraction

NOUGHT = (0, 1)


def is_poly(thing):
    """Tell of any thing whether it is a POLY."""
    if not isinstance(thing, tuple) or not all([is_fraction(part) for part in thing]):
        return False
    return thing == () or thing[-1] != NOUGHT


def is_monic(poly):
    """Tell whether the POLY is MONIC."""
    return poly != () and poly[-1] == (1, 1)


def trimmed(things, nought):
    """Tell the tuple of a list of things, noughts at its end left out."""
    end = len(things)
    while end > 0 and things[end - 1] == nought:
        end -= 1
    return tuple(things[:end])


def fraction_at(poly, power):
    """Tell the POLY's FRACTION of the power, nought beyond its last one."""
    return poly[power] if power < len(poly) else NOUGHT


def poly_sum(one, other):
    """Tell the sum of two POLYS."""
    most = max(len(one), len(other))
    sums = [fraction_sum(fraction_at(one, power), fraction_at(other, power)) for power in range(most)]
    return trimmed(sums, NOUGHT)


def shared_bottom(parts):
    """Tell the least NUMBER above 0 that the bottoms of all the FRACTIONS divide."""
    shared = 1
    for top, bottom in parts:
        shared *= bottom // common_divisor(shared, bottom)
    return shared


def tops_over(parts, shared):
    """Tell the list of the tops that the FRACTIONS have over the one shared bottom."""
    return [top * (shared // bottom) for top, bottom in parts]


def poly_times(one, other):
    """Tell the product of two POLYS."""
    if one == () or other == ():
        return ()
    # Over one bottom, so that a common divisor is sought once for each power, not for each pair of FRACTIONS.
    shared = shared_bottom(one)
    others_shared = shared_bottom(other)
    others = tops_over(other, others_shared)
    sums = [0] * (len(one) + len(other) - 1)
    for power, top in enumerate(tops_over(one, shared)):
        for more, factor in enumerate(others):
            sums[power + more] += top * factor
    return tuple([fraction_of(total, shared * others_shared) for total in sums])


def poly_scaled(poly, fraction):
    """Tell the POLY times the FRACTION."""
    return trimmed([fraction_times(part, fraction) for part in poly], NOUGHT)


def poly_value(poly, fraction):
    """Tell the VALUE of the POLY for the FRACTION."""
    total = NOUGHT
    for part in reversed(poly):
        total = fraction_sum(fraction_times(total, fraction), part)
    return total


def fraction_less(one, other):
    """Tell the one FRACTION less the other."""
    return fraction_sum(one, (-other[0], other[1]))


def poly_less(one, other):
    """Tell the one POLY less the other."""
    return poly_sum(one, poly_scaled(other, (-1, 1)))


def poly_over(one, other):
    """Tell (quotient, rest) of the one POLY divided by the other; refuse by () with NoBack."""
    if other == ():
        raise NoBack(other)
    rest = list(one)
    quotient = []
    for power in range(len(one) - len(other), -1, -1):
        part = fraction_over(rest[power + len(other) - 1], other[-1])
        quotient.append(part)
        for at, factor in enumerate(other):
            rest[power + at] = fraction_less(rest[power + at], fraction_times(part, factor))
    quotient.reverse()
    return (tuple(quotient), trimmed(rest, NOUGHT))


def made_monic(polys):
    """Tell the POLYS, all times the FRACTION that makes the first MONIC."""
    if polys[0] == ():
        return polys
    fraction = fraction_over((1, 1), polys[0][-1])
    return tuple([poly_scaled(poly, fraction) for poly in polys])


def poly_shared(one, other):
    """Tell (part, one, other) SHARED by two POLYS: the two times these, added, are part."""
    # Each of both is such a tuple for what it begins with, and stays so: MONIC each time, so that numbers stay small.
    ahead = made_monic((one, ((1, 1),), ()))
    behind = made_monic((other, (), ((1, 1),)))
    while behind[0] != ():
        quotient = poly_over(ahead[0], behind[0])[0]
        left = tuple([poly_less(poly, poly_times(quotient, more)) for poly, more in zip(ahead, behind)])
        ahead, behind = behind, made_monic(left)
    return ahead
