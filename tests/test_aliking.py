"""Promise 32 (and 5 of alike and apart)."""

import itertools
import random
import unittest

from stepforms.alikechecker import lets_alike
from stepforms.aliking import alike_paper, are_alike
from stepforms.deeds import done
from stepforms.tables import stacked
from tests.helper import Case, deeds_by, tables_by

ALIKE = [
    ((0, ()), (0, ((), ()))),
    ((3, ()), (3, ())),
    ((2, ()), (2, ((0, 0), (0, 0)))),
    ((2, ((1, 2),)), (2, ((1, 2), (1, 2)))),
    ((2, ((1, 2),)), (2, ((-1, -2), (0, 0), (3, 6)))),
    ((2, ((2, 0), (0, 3))), (2, ((2, 3), (0, 3), (2, 0)))),
    ((1, ((4,), (6,))), (1, ((2,),))),
    ((2, ((1, 0), (0, 1))), (2, ((2, 3), (3, 5)))),
]
APART = [
    ((1, ()), (1, ((5,),))),
    ((1, ((2,),)), (1, ((4,),))),
    ((1, ((2,),)), (1, ((3,),))),
    ((2, ((1, 0),)), (2, ((0, 1),))),
    ((2, ((1, 2),)), (2, ((2, 4),))),
    ((2, ((1, 2),)), (2, ((1, 2), (0, 1)))),
    ((2, ((2, 0), (0, 3))), (2, ((1, 0), (0, 3)))),
    ((2, ((2, 1), (0, 3))), (2, ((2, 0), (0, 3)))),
    ((3, ((0, 2, 1), (0, 0, 4))), (3, ((0, 2, 1), (0, 0, 2)))),
]


class Alike(Case):
    def looked_at(self, one, other, right):
        for first, second in ((one, other), (other, one)):
            self.assertTold(right, are_alike, first, second)
            paper = alike_paper(first, second)
            self.assertEqual(paper[0], "alike" if right else "apart")
            self.assertTold(True, lets_alike, first, second, paper)

    def test_known_ones(self):
        for one, other in ALIKE:
            self.looked_at(one, other, True)
        for one, other in APART:
            self.looked_at(one, other, False)

    def test_a_table_and_itself(self):
        for table in tables_by(33, 60, 99):
            self.looked_at(table, table, True)

    def test_tables_led_by_deeds(self):
        dice = random.Random(34)
        for table in tables_by(34, 100, 99):
            self.looked_at(table, done(table, deeds_by(dice, len(table[1]), 8)), True)

    def test_nought_rows_and_rows_twice(self):
        for wide, rows in tables_by(35, 60, 99):
            table = (wide, rows[:3])
            self.looked_at(table, stacked(table, (wide, ((0,) * wide,))), True)
            self.looked_at(table, stacked((wide, ((0,) * wide,)), table), True)
            if table[1]:
                self.looked_at(table, stacked(table, (wide, table[1][:1])), True)

    def test_a_row_twice_as_long_is_apart(self):
        for wide, rows in tables_by(36, 60, 99):
            doubled = tuple(tuple(2 * number for number in row) for row in rows)
            self.looked_at((wide, rows), (wide, doubled), not any(map(any, rows)))

    def test_one_another_by_small_points(self):
        # Two lattices in a plane that hold six times each point are the same just where they have the same points there.
        rows = [(0, 0), (1, 0), (2, 0), (3, 0), (0, 2), (1, 1), (1, 2), (3, 3), (2, 1)]
        full = (2, ((6, 0), (0, 6)))
        tables = [stacked(full, (2, (one, other))) for one, other in itertools.combinations(rows, 2)]

        def points(table):
            return {(sum(k * row[0] for k, row in zip(numbers, table[1])) % 6,
                     sum(k * row[1] for k, row in zip(numbers, table[1])) % 6)
                    for numbers in itertools.product([0], [0], range(6), range(6))}

        for one, other in itertools.combinations(tables, 2):
            self.looked_at(one, other, points(one) == points(other))

    def test_others(self):
        tables = tables_by(37, 45, 9)
        for one, other in itertools.product(tables, tables):
            if one[0] == other[0]:
                paper = alike_paper(one, other)
                self.assertSame(are_alike(one, other), paper[0] == "alike")
                self.assertSame(lets_alike(one, other, paper), True)


if __name__ == "__main__":
    unittest.main()
