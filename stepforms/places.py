"""The PLACES of points by a rounds paper: one for each class."""

from stepforms.roundchecker import downs_of
from stepforms.tables import row_sum, row_times


def column_downs(form):
    """Tell the DOWN of each column of ROUNDS, 0 for a column that has none."""
    downs = downs_of(form)
    return downs + (0,) * (form[0] - len(downs))


def rests_by_downs(form, numbers):
    """Tell the numbers, each as its rest by its column's DOWN where this is above 0."""
    return tuple([number % down if down > 0 else number for number, down in zip(numbers, column_downs(form))])


def place_of(paper, point):
    """Tell the PLACE of the point by a rounds paper that is let by."""
    return rests_by_downs(paper[1], row_times(point, paper[4]))


def place_sum(paper, one, other):
    """Tell the SUM of two places by a rounds paper that is let by."""
    return rests_by_downs(paper[1], row_sum(one, other))


def point_at(paper, place):
    """Tell a point that has the place by a rounds paper that is let by."""
    return row_times(place, paper[5])
