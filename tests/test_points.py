"""Promises 41 and 42 (and 2, 4 and 5 of points)."""

import itertools
import random
import unittest

from stepforms.deeds import done
from stepforms.pointchecker import lets_point
from stepforms.points import point_paper, rest_of
from stepforms.stepping import leads_of, steps_of, steps_paper
from stepforms.tables import stacked
from tests.helper import Case, deeds_by, lattice_point, less, nought, plus, point_by, wide_tables_by

# A table, a point, and its rest by the table.
KNOWN = [
    ((1, ()), (0,), (0,)),
    ((1, ()), (-7,), (-7,)),
    ((3, ()), (999, 0, -999), (999, 0, -999)),
    ((2, ((0, 0), (0, 0))), (5, -6), (5, -6)),
    ((1, ((4,), (6,))), (999,), (1,)),
    ((1, ((4,), (6,))), (-1,), (1,)),
    ((1, ((-5,),)), (-999,), (1,)),
    ((1, ((5,),)), (15,), (0,)),
    ((1, ((5,), (5,))), (14,), (4,)),
    ((2, ((2, 0), (1, 3))), (5, 3), (0, 0)),
    ((2, ((2, 0), (1, 3))), (0, 3), (0, 3)),
    ((2, ((2, 0), (1, 3))), (1, 0), (0, 3)),
    ((2, ((0, 4),)), (7, -1), (7, 3)),
    ((2, ((3, 1),)), (7, 0), (1, -2)),
    ((3, ((0, 2, 1), (0, 0, 3))), (-4, 5, 0), (-4, 1, 1)),
]


class Papers(Case):
    def looked_at(self, table, point):
        paper = point_paper(table, point)
        self.assertTold(True, lets_point, table, point, paper)
        self.assertSame(paper[0], "in" if nought(rest_of(table, point)) else "out")
        return paper[0]

    def test_known_ones(self):
        for table, point, rest in KNOWN:
            self.assertSame(self.looked_at(table, point), "in" if nought(rest) else "out")

    def test_points_of_the_lattice_are_in(self):
        dice = random.Random(42)
        for table in wide_tables_by(42, 200, 99, 4):
            self.assertSame(self.looked_at(table, lattice_point(dice, table)[0]), "in")
            self.assertSame(self.looked_at(table, (0,) * table[0]), "in")
            for row in table[1]:
                self.assertSame(self.looked_at(table, row), "in")

    def test_any_points_by_tables_of_up_to_eight_rows(self):
        dice = random.Random(43)
        words = [self.looked_at(table, point_by(dice, table[0])) for table in wide_tables_by(43, 300, 99, 8)]
        self.assertGreater(words.count("in"), 20)
        self.assertGreater(words.count("out"), 20)

    def test_by_all_points_of_a_small_square(self):
        # The lattices hold six times each point: so a point is in just where it is, six apart, among these few sums.
        rows = [(0, 0), (1, 0), (2, 0), (3, 0), (0, 2), (1, 1), (1, 2), (3, 3), (2, 1)]
        for one, other in itertools.combinations(rows, 2):
            table = (2, ((6, 0), (0, 6), one, other))
            held = {tuple((a * x + b * y) % 6 for x, y in zip(one, other)) for a in range(6) for b in range(6)}
            for point in itertools.product(range(6), repeat=2):
                self.assertSame(point_paper(table, point)[0], "in" if point in held else "out")

    def test_what_was_told_may_be_handed_in(self):
        dice = random.Random(44)
        for table in wide_tables_by(44, 40, 99, 4):
            for told in steps_paper(table)[1:]:
                for row in told[1]:
                    self.assertSame(self.looked_at(told, row), "in")
                self.looked_at(told, point_by(dice, told[0]))


class Rests(Case):
    def test_known_ones(self):
        for table, point, rest in KNOWN:
            self.assertTold(rest, rest_of, table, point)
            self.assertTold(rest, rest_of, table, rest)

    def test_numbers_at_the_leads(self):
        dice = random.Random(45)
        for table in wide_tables_by(45, 300, 99, 8):
            point = point_by(dice, table[0])
            rest = rest_of(table, point)
            self.assertTold(rest, rest_of, table, point)
            for row, lead in zip(steps_of(table)[1], leads_of(table)):
                self.assertTrue(0 <= rest[lead] < row[lead])
            self.assertSame(point_paper(table, less(point, rest))[0], "in")

    def test_the_same_by_alike_tables(self):
        dice = random.Random(46)
        for table in wide_tables_by(46, 150, 99, 6):
            point = point_by(dice, table[0])
            rest = rest_of(table, point)
            led = done(table, deeds_by(dice, len(table[1]), 8))
            more = stacked((table[0], ((0,) * table[0],)), stacked(table, (table[0], table[1][:1])))
            for other in (led, more, steps_of(table)):
                self.assertTold(rest, rest_of, other, point)

    def test_the_same_just_where_the_difference_is_in(self):
        dice = random.Random(47)
        seen = []
        for table in wide_tables_by(47, 200, 4, 8):
            one = point_by(dice, table[0], 9)
            other = point_by(dice, table[0], 9)
            for behind in (other, plus(one, lattice_point(dice, table)[0])):
                alike = point_paper(table, less(one, behind))[0] == "in"
                self.assertSame(rest_of(table, one) == rest_of(table, behind), alike)
                seen.append(alike)
        self.assertGreater(seen.count(False), 50)
        self.assertGreater(seen.count(True), 200)

    def test_as_many_rests_as_the_numbers_at_the_leads_say(self):
        table = (2, ((2, 1), (0, 3)))
        rests = {rest_of(table, point) for point in itertools.product(range(-6, 7), repeat=2)}
        self.assertEqual(rests, set(itertools.product(range(2), range(3))))


if __name__ == "__main__":
    unittest.main()
