"""Promises 16, 17 and 18."""

import itertools
import random
import unittest

from stepforms.backs import back_of, corner_of, corners_of, is_back
from stepforms.deeds import deeds_table, done
from stepforms.errors import NoBack
from stepforms.tables import times, turned_over
from tests.helper import Case, deeds_by, plain_corner, plain_times, plain_unit, table_by


class Corners(Case):
    def test_small_ones(self):
        self.assertTold(1, corner_of, (0, ()))
        self.assertTold(-7, corner_of, (1, ((-7,),)))
        self.assertTold(0, corner_of, (1, ((0,),)))
        self.assertTold(-2, corner_of, (2, ((1, 2), (3, 4))))
        self.assertTold(-1, corner_of, (2, ((0, 1), (1, 0))))
        self.assertTold(-3, corner_of, (3, ((1, 2, 3), (4, 5, 6), (7, 8, 10))))

    def test_as_the_document_reckons(self):
        dice = random.Random(16)
        for _ in range(120):
            many = dice.randint(0, 5)
            table = table_by(dice, many, many, dice.choice([1, 99]))
            self.assertTold(plain_corner([list(row) for row in table[1]]), corner_of, table)

    def test_rules(self):
        dice = random.Random(17)
        for _ in range(60):
            many = dice.randint(2, 4)
            one, other = table_by(dice, many, many, 99), table_by(dice, many, many, 99)
            self.assertEqual(corner_of(times(one, other)), corner_of(one) * corner_of(other))
            self.assertEqual(corner_of(turned_over(one)), corner_of(one))
            self.assertEqual(corner_of(done(one, (("swap", 0, 1),))), -corner_of(one))
            self.assertEqual(corner_of(done(one, (("turn", 1),))), -corner_of(one))
            self.assertEqual(corner_of(done(one, (("add", 1, 0, 9),))), corner_of(one))

    def test_eight_rows(self):
        dice = random.Random(18)
        one = table_by(dice, 8, 8, 9)
        self.assertEqual(corner_of(times(one, one)), corner_of(one) ** 2)
        self.assertTold(1, corner_of, plain_unit(8))


class CornersOfSize(Case):
    def test_in_the_told_order(self):
        table = (3, ((1, 2, 3), (4, 5, 6), (7, 8, 10)))
        self.assertTold([1, 2, 3, 4, 5, 6, 7, 8, 10], corners_of, table, 1)
        self.assertTold([-3, -6, -3, -6, -11, -4, -3, -2, 2], corners_of, table, 2)
        self.assertTold([-3], corners_of, table, 3)
        self.assertTold([1, 2, 3, 4], corners_of, (2, ((1, 2), (3, 4))), 1)

    def test_too_great_a_size(self):
        for table, k in [((3, ((1, 2, 3), (4, 5, 6), (7, 8, 10))), 4), ((4, ((1, 2, 3, 4),)), 2),
                         ((1, ((1,), (2,), (3,))), 2), ((0, ()), 1), ((0, ((), ())), 1), ((4, ()), 1),
                         ((2, ((1, 2), (3, 4))), 8), ((2, ((1, 2), (3, 4))), 10 ** 30)]:
            self.assertTold([], corners_of, table, k)

    def test_as_the_document_chooses(self):
        dice = random.Random(19)
        for _ in range(80):
            many, wide, k = dice.randint(0, 4), dice.randint(0, 4), dice.randint(1, 5)
            table = table_by(dice, many, wide, 99)
            right = [plain_corner([[table[1][r][c] for c in columns] for r in rows])
                     for rows in itertools.combinations(range(many), k)
                     for columns in itertools.combinations(range(wide), k)]
            self.assertTold(right, corners_of, table, k)

    def test_a_told_list_is_the_askers_own(self):
        table = (2, ((1, 2), (3, 4)))
        corners_of(table, 1).append("more")
        corners_of(table, 2)[0] = 5
        self.assertSame(corners_of(table, 1), [1, 2, 3, 4])
        self.assertSame(corners_of(table, 2), [-2])


class Backs(Case):
    def test_small_ones(self):
        self.assertTold((0, ()), back_of, (0, ()))
        self.assertTold((1, ((1,),)), back_of, (1, ((1,),)))
        self.assertTold((1, ((-1,),)), back_of, (1, ((-1,),)))
        self.assertTold((2, ((1, -3), (0, 1))), back_of, (2, ((1, 3), (0, 1))))
        self.assertTold((2, ((0, 1), (1, 0))), back_of, (2, ((0, 1), (1, 0))))
        self.assertTold((2, ((5, -3), (-3, 2))), back_of, (2, ((2, 3), (3, 5))))

    def test_of_deeds(self):
        dice = random.Random(20)
        for _ in range(100):
            many = dice.randint(0, 8)
            table = deeds_table(many, deeds_by(dice, many, 12, 9))
            back = back_of(table)
            self.assertSame(plain_times(table, back), plain_unit(many))
            self.assertSame(plain_times(back, table), plain_unit(many))
            self.assertTold(table, back_of, back)
            self.assertTold(True, is_back, table, back)
            self.assertTold(True, is_back, back, table)

    def test_refused_with_the_corner(self):
        for table, corner in [((1, ((0,),)), 0), ((1, ((2,),)), 2), ((1, ((-2,),)), -2), ((2, ((1, 2), (3, 4))), -2),
                              ((2, ((1, 1), (1, 1))), 0), ((3, ((1, 2, 3), (4, 5, 6), (7, 8, 10))), -3)]:
            self.assertRefused(NoBack, {"corner": corner}, back_of, table)

    def test_is_back_of_others(self):
        one = (2, ((1, 1), (0, 1)))
        for first, second in [(one, one), (one, (2, ((1, -1), (0, 1), (0, 0)))), (one, (2, ((1, -1),))),
                              (one, (0, ())), ((0, ()), one), (one, (3, ((1, -1, 0), (0, 1, 0)))),
                              ((2, ((1, 0),)), (1, ((1,), (0,)))), ((1, ((1,), (0,))), (2, ((1, 0),))),
                              ((2, ()), (0, ((), ()))), ((0, ((), ())), (2, ())), ((0, ((),)), (0, ((),))),
                              ((1, ((2,),)), (1, ((2,),))), ((1, ((1,),)), (1, ((-1,),))),
                              ((3, ((1, 0, 0), (0, 1, 0))), (2, ((1, 0), (0, 1), (0, 0)))), ((3, ()), (3, ())),
                              ((3, ((1, 0, 0), (0, 1, 0))), plain_unit(2)), (plain_unit(2), (3, ((1, 0, 0), (0, 1, 0))))]:
            self.assertTold(False, is_back, first, second)
        self.assertTold(True, is_back, (0, ()), (0, ()))
        self.assertTold(True, is_back, one, (2, ((1, -1), (0, 1))))


if __name__ == "__main__":
    unittest.main()
