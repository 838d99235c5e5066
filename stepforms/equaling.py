"""Equal tables or unequal ones: an EQUAL PAPER of the two."""

from stepforms.rounding import rounds_paper
from stepforms.tables import times


def equal_paper(one, other):
    """Tell an EQUAL PAPER of two tables with as many rows and as wide: "equal" just where their ROUNDS are the same."""
    first = rounds_paper(one)
    second = rounds_paper(other)
    if first[1] != second[1]:
        return ("unequal", first, second)
    # Both are led to the same ROUNDS: from the one there, and back from there to the other.
    left = times(second[3], first[2])
    left_back = times(first[3], second[2])
    right = times(first[4], second[5])
    right_back = times(second[4], first[5])
    return ("equal", left, left_back, right, right_back)
