"""Promises 63, 64 and 66 to 68 (and 5 of what a lattice leaves)."""

import itertools
import math
import random
import unittest

from stepforms.deeds import done
from stepforms.lattices import form_of
from stepforms.leaving import beside, classes_of, killed_by, left_by, maps, order_of
from stepforms.points import rest_of
from stepforms.rounding import rounds_of, rounds_paper
from stepforms.stepping import rank_of
from stepforms.tables import stacked, turned_over
from tests.helper import (
    Case, deeds_by, lattice_point, nought, plain_downs, plain_times, plain_unit, plus, point_by, scaled, table_by,
    wide_tables_by)

# A table, what is left by it, and how many classes there are.
KNOWN = [
    ((1, ()), ((), 1), None), ((4, ()), ((), 4), None), ((2, ((0, 0), (0, 0))), ((), 2), None),
    ((1, ((1,),)), ((), 0), 1), ((1, ((-7,),)), ((7,), 0), 7), ((1, ((4,), (6,), (0,), (4,))), ((2,), 0), 2),
    ((2, ((1, 0), (0, 1))), ((), 0), 1), ((2, ((2, 0), (0, 3))), ((6,), 0), 6), ((2, ((2, 0), (0, 2))), ((2, 2), 0), 4),
    ((2, ((2, 4),)), ((2,), 1), None), ((2, ((2, 3),)), ((), 1), None), ((2, ((2, 4), (3, 6))), ((), 1), None),
    ((3, ((2, 0, 0), (0, 4, 0))), ((2, 4), 1), None), ((3, ((1, 0, 0), (0, 0, 5), (0, 0, 0))), ((5,), 1), None),
    ((2, ((1, 2), (3, 4), (0, 0))), ((2,), 0), 2), ((4, ((0, 0, 0, 9),)), ((9,), 3), None),
    ((3, ((6, 0, 0), (0, 10, 0), (0, 0, 15))), ((30, 30), 0), 900),
]


def killed_points(table, n):
    """One point of each class, n times a point of which is in the lattice: a sum of the form's rows, divided by n."""
    form = form_of(table)
    found = []
    for numbers in itertools.product(range(n), repeat=len(form[1])):
        summed = plain_times((len(form[1]), (numbers,)), form)[1][0]
        if all(number % n == 0 for number in summed):
            found.append(tuple(number // n for number in summed))
    return found


def small_tables(seed, count, wide, most=2, classes=40):
    """Small tables, so wide, with few classes or endlessly many."""
    dice = random.Random(seed)
    found = []
    while len(found) < count:
        table = table_by(dice, dice.randint(0, 3), wide, most)
        if (classes_of(table) or 1) <= classes and (left_by(table)[0] or (1,))[-1] <= 12:
            found.append(table)
    return found


class Left(Case):
    def test_known_ones(self):
        for table, left, classes in KNOWN:
            self.assertTold(left, left_by, table)
            self.assertTold(classes, classes_of, table)

    def test_by_the_corners(self):
        for table in wide_tables_by(63, 250, 99):
            downs = plain_downs(table)
            right = (tuple(down for down in downs if down > 1), table[0] - sum(down > 0 for down in downs))
            self.assertTold(right, left_by, table)
            self.assertTold(None if right[1] > 0 else math.prod(right[0]), classes_of, table)
            self.assertSame(right[1], table[0] - rank_of(table))

    def test_as_many_classes_as_rests(self):
        for wide in (1, 2):
            for table in small_tables(64, 60, wide, 4):
                count = classes_of(table)
                if count is not None:
                    points = itertools.product(range(count), repeat=wide)
                    self.assertSame(len({rest_of(table, point) for point in points}), count)

    def test_none_just_where_columns_are_free(self):
        seen = []
        for table in wide_tables_by(65, 150, 99):
            free = left_by(table)[1]
            self.assertSame(classes_of(table) is None, free > 0)
            seen.append(free)
        self.assertGreater(seen.count(0), 20)
        self.assertGreater(len(set(seen)), 3)

    def test_alike_tables_leave_the_same(self):
        dice = random.Random(66)
        for table in wide_tables_by(66, 80, 99):
            led = done(table, deeds_by(dice, len(table[1]), 6))
            turned = turned_over(done(turned_over(led), deeds_by(dice, table[0], 6)))
            for other in (led, turned, form_of(table), rounds_of(table)):
                self.assertSame(left_by(other), left_by(table))


class Orders(Case):
    def looked_at(self, table, point):
        order = order_of(table, point)
        self.assertTold(order, order_of, table, point)
        lies_beside = rank_of(stacked(table, (table[0], (point,)))) > rank_of(table)
        self.assertSame(order is None, lies_beside)
        self.assertSame(order == 1, nought(rest_of(table, point)))
        if order is not None:
            self.assertSame((left_by(table)[0] or (1,))[-1] % order, 0)
            self.assertTrue(nought(rest_of(table, scaled(point, order))))
            for part in range(2, min(order, 2000) + 1):
                if order % part == 0:
                    self.assertFalse(nought(rest_of(table, scaled(point, order // part))))
        return order

    def test_known_ones(self):
        for table, point, order in [
                ((1, ()), (0,), 1), ((1, ()), (5,), None), ((1, ((12,),)), (8,), 3), ((1, ((12,),)), (-7,), 12), ((1, ((12,),)), (24,), 1),
                ((2, ((2, 0), (0, 3))), (1, 1), 6), ((2, ((2, 0), (0, 3))), (1, 0), 2), ((2, ((2, 0), (0, 3))), (0, 99), 1),
                ((2, ((2, 4),)), (1, 2), 2), ((2, ((2, 4),)), (1, 1), None), ((2, ((2, 4),)), (-99, -98), None), ((2, ((0, 0),)), (0, 0), 1),
                ((2, ((0, 0),)), (0, 1), None), ((3, ((4, 0, 0), (0, 6, 0))), (1, 1, 0), 12), ((3, ((4, 0, 0), (0, 6, 0))), (1, 1, 1), None),
                ((2, ((4, 0), (0, 6))), (2, 3), 2), ((2, ((4, 0), (0, 6))), (2, 2), 6)]:
            self.assertTold(order, order_of, table, point)
            self.looked_at(table, point)

    def test_any_points(self):
        dice = random.Random(67)
        orders = [self.looked_at(table, point_by(dice, table[0], 99)) for table in wide_tables_by(67, 200, 9)]
        self.assertIn(None, orders)
        self.assertIn(1, orders)
        self.assertGreater(len(set(orders)), 10)

    def test_points_of_the_lattice(self):
        dice = random.Random(68)
        for table in wide_tables_by(68, 80, 99):
            self.assertSame(self.looked_at(table, lattice_point(dice, table)[0]), 1)

    def test_points_that_some_number_leads_into_the_lattice(self):
        dice = random.Random(69)
        for table in small_tables(69, 60, 2, 6) + small_tables(70, 60, 3, 3):
            n = (left_by(table)[0] or (1,))[-1]
            for point in killed_points(table, n)[:10]:
                order = self.looked_at(table, plus(point, lattice_point(dice, table)[0]))
                self.assertSame(n % order, 0)
                right = [k for k in range(1, n + 1) if nought(rest_of(table, scaled(point, k)))]
                self.assertSame(order, right[0])


class Killed(Case):
    def test_known_ones(self):
        for table, n, count in [
                ((1, ()), 5, 1), ((4, ()), 200, 1), ((1, ((12,),)), 1, 1), ((1, ((12,),)), 8, 4), ((1, ((12,),)), 200, 4), ((1, ((12,),)), 7, 1),
                ((2, ((2, 0), (0, 4))), 2, 4), ((2, ((2, 0), (0, 4))), 4, 8), ((2, ((2, 4),)), 6, 2), ((2, ((0, 0),)), 9, 1),
                ((2, ((2, 0), (0, 3))), 6, 6), ((2, ((10, 0), (0, 50))), 200, 500), ((2, ((1, 0), (0, 1))), 200, 1)]:
            self.assertTold(count, killed_by, table, n)

    def test_by_counting(self):
        free = 0
        for wide in (1, 2, 3):
            for table in small_tables(71, 40, wide, 6 if wide < 3 else 3):
                for n in (1, 2, 3, 4, 6, 9):
                    self.assertTold(len(killed_points(table, n)), killed_by, table, n)
                free += left_by(table)[1] > 0
        self.assertGreater(free, 20)

    def test_by_the_downs(self):
        for table in wide_tables_by(72, 100, 99):
            for n in (1, 2, 12, 30, 97, 200):
                right = math.prod(math.gcd(n, down) for down in plain_downs(table) if down > 0)
                self.assertTold(right, killed_by, table, n)

    def test_all_classes_by_their_count(self):
        for table in small_tables(73, 60, 2, 9, 200):
            if classes_of(table) is not None:
                self.assertTold(classes_of(table), killed_by, table, classes_of(table))


class Maps(Case):
    def test_known_ones(self):
        for one, other, count in [
                ((1, ()), (1, ()), None), ((1, ()), (2, ((2, 0),)), None), ((2, ((0, 0),)), (1, ((0,),)), None),
                ((1, ()), (1, ((6,),)), 6), ((2, ()), (1, ((6,),)), 36), ((1, ((6,),)), (1, ()), 1), ((1, ((6,),)), (2, ((4, 0),)), 2),
                ((1, ((6,),)), (1, ((4,),)), 2), ((1, ((4,),)), (1, ((6,),)), 2), ((1, ((5,),)), (1, ((7,),)), 1),
                ((2, ((2, 0), (0, 4))), (2, ((2, 0), (0, 4))), 32), ((2, ((2, 0), (0, 2))), (1, ((2,),)), 4),
                ((2, ((2, 0),)), (1, ((4,),)), 8), ((1, ((1,),)), (4, ()), 1), ((4, ()), (1, ((1,),)), 1), ((1, ()), (2, ((2, 0), (0, 2))), 4)]:
            self.assertTold(count, maps, one, other)

    def test_by_counting(self):
        # A map is told by what the points with one 1 are given, so that each row of the one is given the nought class.
        free = [0, 0]
        for wide in (1, 2):
            ones = small_tables(74 + wide, 40, wide, 4, 12)
            others = small_tables(84 + wide, 40, 2, 3, 12)
            for one, other in zip(ones, others):
                told = maps(one, other)
                self.assertTold(told, maps, one, other)
                if left_by(one)[1] > 0 and left_by(other)[1] > 0:
                    self.assertSame(told, None)
                    continue
                # Where the one has few classes, what is given is killed by their count; else the other has few.
                n = classes_of(one) or classes_of(other)
                given = [rest_of(other, point) for point in killed_points(other, n)]
                if classes_of(one) is None:
                    self.assertSame(len(given), classes_of(other))
                right = 0
                for chosen in itertools.product(given, repeat=wide):
                    led = plain_times(one, (2, chosen))
                    right += all(nought(rest_of(other, row)) for row in led[1])
                self.assertSame(told, right)
                free[0] += left_by(one)[1] > 0
                free[1] += left_by(other)[1] > 0
        self.assertGreater(min(free), 3)

    def test_by_the_downs(self):
        tables = wide_tables_by(75, 30, 9)
        for one, other in itertools.product(tables, repeat=2):
            (above, free), (others, others_free) = left_by(one), left_by(other)
            right = math.prod(math.gcd(a, b) for a in above for b in others)
            if free > 0:
                right = None if others_free > 0 else right * classes_of(other) ** free
            self.assertSame(maps(one, other), right)
            self.assertSame(maps(one, other) is None, free > 0 and others_free > 0)


class Beside(Case):
    def test_known_ones(self):
        for one, other, right in [
                ((1, ()), (1, ()), (2, ())), ((1, ()), (2, ((3, 4),)), (3, ((0, 3, 4),))), ((2, ((3, 4),)), (1, ()), (3, ((3, 4, 0),))),
                ((2, ((1, 2), (3, 4))), (2, ((5, 6), (7, 8))), (4, ((1, 2, 0, 0), (3, 4, 0, 0), (0, 0, 5, 6), (0, 0, 7, 8)))),
                ((1, ((5,), (0,))), (1, ((-7,),)), (2, ((5, 0), (0, 0), (0, -7)))), ((2, ()), (2, ()), (4, ())),
                ((0, ()), (1, ((9,),)), (1, ((9,),))), ((0, ((),)), (1, ((9,),)), (1, ((0,), (9,))))]:
            self.assertTold(right, beside, one, other)

    def test_what_it_leaves_is_what_both_leave(self):
        dice = random.Random(76)
        for _ in range(200):
            one, other = [table_by(dice, dice.randint(0, 2), dice.randint(1, 2), 9) for _ in range(2)]
            both = beside(one, other)
            self.assertSame(left_by(both)[1], left_by(one)[1] + left_by(other)[1])
            if left_by(both)[1] == 0:
                self.assertSame(classes_of(both), classes_of(one) * classes_of(other))
            else:
                self.assertSame(classes_of(both), None)
            for n in (2, 3, 12, 200):
                self.assertSame(killed_by(both, n), killed_by(one, n) * killed_by(other, n))
            point, more = point_by(dice, one[0], 9), point_by(dice, other[0], 9)
            orders = [order_of(one, point), order_of(other, more)]
            right = None if None in orders else math.lcm(*orders)
            self.assertSame(order_of(both, point + more), right)

    def test_maps_from_both(self):
        dice = random.Random(77)
        for _ in range(60):
            one, other, third = [table_by(dice, 2, dice.randint(1, 2), 9) for _ in range(3)]
            parts = [maps(one, third), maps(other, third)]
            self.assertSame(maps(beside(one, other), third), None if None in parts else parts[0] * parts[1])


class ToldHere(Case):
    def test_what_was_told_may_be_handed_in(self):
        for table in wide_tables_by(78, 40, 99):
            word, form, left, left_back, right, right_back = rounds_paper(table)
            self.assertSame(left_by(form), left_by(table))
            self.assertTold(((), 0), left_by, right)
            self.assertTold(1, classes_of, right_back)
            self.assertTold(1, order_of, right, right_back[1][0])
            self.assertTold(1, maps, right, table)
            self.assertTold(left_by(table), left_by, plain_times(table, right))
            self.assertSame(plain_times(right, right_back), plain_unit(table[0]))


if __name__ == "__main__":
    unittest.main()
