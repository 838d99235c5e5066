"""What a LATTICE leaves of all POINTS: classes, orders, what a number kills, maps, and tables beside one another."""

from stepforms.fractions import common_divisor
from stepforms.places import column_downs, place_of
from stepforms.rounding import rounds_of, rounds_paper


def product_of(numbers):
    """Tell the product of the numbers, 1 of none."""
    product = 1
    for number in numbers:
        product *= number
    return product


def left_by(table):
    """Tell what is LEFT by the table: (above, free)."""
    downs = column_downs(rounds_of(table))
    return (tuple([down for down in downs if down > 1]), downs.count(0))


def classes_of(table):
    """Tell how many classes there are, None where they are endlessly many."""
    above, free = left_by(table)
    return product_of(above) if free == 0 else None


def order_of(table, point):
    """Tell the ORDER of the point, None where no number of times leads it into the LATTICE."""
    paper = rounds_paper(table)
    order = 1
    for number, down in zip(place_of(paper, point), column_downs(paper[1])):
        if down > 0:
            part = down // common_divisor(down, number)
            order = order * part // common_divisor(order, part)
        elif number != 0:
            return None
    return order


def killed_by(table, n):
    """Tell how many classes there are, n times a point of which lies in the LATTICE."""
    above, free = left_by(table)
    return product_of([common_divisor(n, number) for number in above])


def maps(one, other):
    """Tell how many MAPS there are from what the one leaves to what the other leaves, None where endlessly many."""
    above, free = left_by(one)
    others, others_free = left_by(other)
    if free > 0 and others_free > 0:
        return None
    shared = [common_divisor(number, more) for number in above for more in others]
    # Each free column of the one may go to any class of the other, which has just these where the one has such columns.
    return product_of(shared) * product_of(others * free)


def beside(one, other):
    """Tell the two TABLES BESIDE one another."""
    behind = (0,) * other[0]
    ahead = (0,) * one[0]
    return (one[0] + other[0], tuple([row + behind for row in one[1]] + [ahead + row for row in other[1]]))
