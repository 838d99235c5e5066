"""Promises 11 and 12 (and 2 and 3 of tables)."""

import random
import unittest

from stepforms.tables import is_row, is_table, is_unit, row_times, stacked, times, turned_over, unit
from tests.helper import ODD_THINGS, VERY_LONG, Case, plain_times, plain_unit, table_by, tables_by

NO_TABLES = ODD_THINGS + [
    [2, ()], (2, []), (2, [(1, 2)]), (2, ([1, 2],)), (2, ((1, 2), [1, 2])), (True, ((1,),)), (False, ()),
    (1, ((True,),)), (2, ((0, 1), (1, False))), (-1, ()), (-1, ((),)), (None, ()), ("2", ()), (2, None), (2, "ab"),
    (2, ((1, 2), (1,))), (2, ((1, 2, 3),)), (0, ((1,),)), (1, ((),)), (VERY_LONG, ((),)), (VERY_LONG, ((1, 2),)),
    (2, ((1, None),)), (2, ((1, "2"),)), (2, ((1, (2,)),)), (2, (), ()), (2,), (1, (1,)), ((), 0), (2, ((1, 2),), 0),
    (0, ((), [])), (2, (1, 2)), (-VERY_LONG, ()),
]


class Looks(Case):
    def test_tables(self):
        for thing in [(0, ()), (0, ((), ())), (3, ()), (VERY_LONG, ()), (1, ((0,),)), (2, ((1, -2), (0, VERY_LONG))),
                      (4, ((0, 0, 0, 0),) * 4), (9, (tuple(range(9)),) * 30)] + tables_by(1, 40):
            self.assertTold(True, is_table, thing)

    def test_no_tables(self):
        for thing in NO_TABLES:
            self.assertTold(False, is_table, thing)

    def test_units(self):
        for n in range(9):
            self.assertTold(True, is_unit, plain_unit(n))

    def test_no_units(self):
        for thing in NO_TABLES + [
                (1, ()), (VERY_LONG, ()), (0, ((),)), (0, ((), ())), (1, ((0,),)), (1, ((-1,),)), (1, ((2,),)),
                (1, ((True,),)), (2, ((1, 0), (0, True))), (2, ((1, False), (0, 1))), (2, ((1, 0), [0, 1])),
                (2, ((0, 1), (1, 0))), (2, ((1, 1), (0, 1))), (2, ((1, 0),)), (2, ((1, 0), (0, 1), (0, 0))),
                (3, ((1, 0, 0), (0, 1, 0))), (2, ((1, 0), (0, -1))), [1, ((1,),)]]:
            self.assertTold(False, is_unit, thing)

    def test_rows(self):
        self.assertTold(True, is_row, 0, ())
        self.assertTold(True, is_row, 1, (VERY_LONG,))
        self.assertTold(True, is_row, 3, (0, -1, 2))
        for wide, thing in [(0, (0,)), (1, ()), (VERY_LONG, ()), (VERY_LONG, (1,)), (2, [1, 2]), (2, (1, True)),
                            (1, (False,)), (1, (None,)), (1, ("1",)), (1, ((),)), (2, "ab"), (0, ""), (0, []), (0, None),
                            (1, 1), (2, (1, 2, 3)), (2, ((1, 2),)), (1, (True,))]:
            self.assertTold(False, is_row, wide, thing)
        for wide in (5, 6):
            for thing in ODD_THINGS:
                self.assertTold(False, is_row, wide, thing)


class Products(Case):
    def test_unit(self):
        for n in range(9):
            self.assertTold(plain_unit(n), unit, n)

    def test_row_times(self):
        self.assertTold((0, 0, 0), row_times, (), (3, ()))
        self.assertTold((), row_times, (), (0, ()))
        self.assertTold((), row_times, (5, 6), (0, ((), ())))
        self.assertTold((7, 10), row_times, (1, 2), (2, ((1, 2), (3, 4))))
        self.assertTold((-99, 198), row_times, (99,), (2, ((-1, 2),)))
        self.assertTold((0, 0), row_times, (0, 0), (2, ((1, 2), (3, 4))))

    def test_times(self):
        self.assertTold((2, ((7, 10), (15, 22))), times, (2, ((1, 2), (3, 4))), (2, ((1, 2), (3, 4))))
        self.assertTold((3, ()), times, (2, ()), (3, ((1, 2, 3), (4, 5, 6))))
        self.assertTold((3, ((0, 0, 0), (0, 0, 0))), times, (0, ((), ())), (3, ()))
        self.assertTold((0, ((), ())), times, (1, ((5,), (6,))), (0, ((),)))
        self.assertTold((0, ()), times, (0, ()), (0, ()))
        dice = random.Random(12)
        for _ in range(200):
            a, b, c = (dice.randint(0, 4) for _ in range(3))
            one, other = table_by(dice, a, b, 99), table_by(dice, b, c, 99)
            self.assertTold(plain_times(one, other), times, one, other)

    def test_rules_of_times(self):
        dice = random.Random(13)
        for _ in range(100):
            a, b, c, d = (dice.randint(0, 4) for _ in range(4))
            one, other, third = table_by(dice, a, b, 99), table_by(dice, b, c, 99), table_by(dice, c, d, 99)
            self.assertSame(times(times(one, other), third), times(one, times(other, third)))
            self.assertSame(turned_over(times(one, other)), times(turned_over(other), turned_over(one)))
            self.assertSame(times(unit(a), one), one)
            self.assertSame(times(one, unit(b)), one)


class Shapes(Case):
    def test_turned_over(self):
        self.assertTold((2, ()), turned_over, (0, ((), ())))
        self.assertTold((0, ((), ())), turned_over, (2, ()))
        self.assertTold((0, ()), turned_over, (0, ()))
        self.assertTold((2, ((1, 4), (2, 5), (3, 6))), turned_over, (3, ((1, 2, 3), (4, 5, 6))))
        self.assertTold((1, ((1,), (2,))), turned_over, (2, ((1, 2),)))
        for table in tables_by(14, 60):
            self.assertTold(table, turned_over, turned_over(table))
            turned = turned_over(table)
            self.assertEqual(turned[0], len(table[1]))
            self.assertEqual([[turned[1][k][r] for k in range(table[0])] for r in range(len(table[1]))],
                             [list(row) for row in table[1]])

    def test_stacked(self):
        self.assertTold((2, ((1, 2), (3, 4), (5, 6))), stacked, (2, ((1, 2),)), (2, ((3, 4), (5, 6))))
        self.assertTold((2, ((1, 2),)), stacked, (2, ()), (2, ((1, 2),)))
        self.assertTold((2, ((1, 2),)), stacked, (2, ((1, 2),)), (2, ()))
        self.assertTold((0, ((), (), ())), stacked, (0, ((),)), (0, ((), ())))
        self.assertTold((3, ()), stacked, (3, ()), (3, ()))


if __name__ == "__main__":
    unittest.main()
