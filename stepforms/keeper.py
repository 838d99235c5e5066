"""A keeper of rows that are put in and taken out, and what is told of those that stand."""

from stepforms.errors import NoRow
from stepforms.fractions import is_number
from stepforms.lattices import form_of
from stepforms.points import point_paper, rest_of
from stepforms.tables import is_nought


class Keeper:
    """A keeper of rows of so many numbers, each by its own number."""

    def __init__(self, wide):
        self.wide = wide
        self.standing = {}
        self.given = 0

    def put(self, row):
        """Put the ROW in and tell its number."""
        number = self.given
        self.standing[number] = tuple(row)
        self.given = number + 1
        return number

    def out(self, number):
        """Take the ROW of this number out; refuse any thing that is no number of a ROW that stands with NoRow."""
        # The kind first: True is no 1, and a list can't be looked up.
        if not is_number(number) or number not in self.standing:
            raise NoRow(number)
        del self.standing[number]

    def kept(self):
        """Tell the list of (number, ROW) of the ROWS that stand, rising."""
        return [(number, self.standing[number]) for number in sorted(self.standing)]

    def table_now(self):
        """Tell the TABLE of the ROWS that stand."""
        return (self.wide, tuple([row for number, row in self.kept()]))

    def form_now(self):
        """Tell the FORM of the ROWS that stand."""
        return form_of(self.table_now())

    def rest(self, point):
        """Tell the REST of the POINT by the ROWS that stand."""
        return rest_of(self.table_now(), point)

    def has(self, point):
        """Tell whether the POINT is in the LATTICE of the ROWS that stand."""
        return is_nought(self.rest(point))

    def paper(self, point):
        """Tell a POINT paper of the ROWS that stand and the POINT."""
        return point_paper(self.table_now(), point)
