"""NUMBERS and FRACTIONS: looks of any thing, and sums, products and quotients."""


def is_number(thing):
    """Tell of any thing whether it is a NUMBER: an int that is no truth."""
    return isinstance(thing, int) and not isinstance(thing, bool)


def common_divisor(one, other):
    """Tell the greatest NUMBER that divides both; 0 where both are 0."""
    one = abs(one)
    other = abs(other)
    while other != 0:
        one, other = other, one % other
    return one


def is_fraction(thing):
    """Tell of any thing whether it is a FRACTION."""
    if not isinstance(thing, tuple) or len(thing) != 2:
        return False
    top, bottom = thing
    if not is_number(top) or not is_number(bottom):
        return False
    return bottom >= 1 and common_divisor(top, bottom) == 1


def fraction_of(top, bottom):
    """Tell the FRACTION that is the top divided by the bottom, which isn't 0."""
    shared = common_divisor(top, bottom)
    if bottom < 0:
        shared = -shared
    return (top // shared, bottom // shared)


def fraction_sum(one, other):
    """Tell the sum of two FRACTIONS."""
    return fraction_of(one[0] * other[1] + other[0] * one[1], one[1] * other[1])


def fraction_times(one, other):
    """Tell the product of two FRACTIONS."""
    return fraction_of(one[0] * other[0], one[1] * other[1])


def fraction_over(one, other):
    """Tell the one FRACTION divided by the other, which isn't nought."""
    return fraction_of(one[0] * other[1], one[1] * other[0])


def row_parts(row, parts):
    """Tell the sum of the row's numbers, each times the FRACTION at its place."""
    total = (0, 1)
    for number, part in zip(row, parts):
        total = fraction_sum(total, fraction_times((number, 1), part))
    return total
