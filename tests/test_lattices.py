"""Promises 46 to 49 (and 5 of indexes)."""

import itertools
import random
import unittest

from stepforms.aliking import are_alike
from stepforms.deeds import done
from stepforms.lattices import common_part, form_of, index_of, inside, joined, most_of
from stepforms.points import point_paper, rest_of
from stepforms.stepchecker import is_steps
from stepforms.stepping import rank_of, steps_of, steps_paper
from stepforms.tables import stacked
from tests.helper import (
    Case, deeds_by, lattice_point, nought, plain_times, plain_unit, point_by, table_by, wide_tables_by)


def is_form(table):
    return is_steps(table) and not any(nought(row) for row in table[1])


def tables_of(dice, wide, count, most=9):
    """So many tables, all so wide, of none to four rows."""
    return [table_by(dice, dice.randint(0, 4), wide, dice.choice([1, 2, most])) for _ in range(count)]


class Forms(Case):
    def test_known_ones(self):
        for table, form in [((1, ()), (1, ())), ((4, ()), (4, ())), ((2, ((0, 0),)), (2, ())), ((1, ((0,), (0,))), (1, ())),
                            ((1, ((4,), (6,))), (1, ((2,),))), ((2, ((3, 4), (-3, -4))), (2, ((3, 4),))),
                            ((2, ((0, 0), (0, -3))), (2, ((0, 3),))), ((2, ((1, 2), (3, 4))), (2, ((1, 0), (0, 2)))),
                            ((2, ((5, -1), (0, 3))), (2, ((5, 2), (0, 3))))]:
            self.assertTold(form, form_of, table)
            self.assertTold(form, form_of, form)

    def test_steps_without_nought_rows(self):
        for table in wide_tables_by(46, 200, 99, 8):
            form = form_of(table)
            self.assertTold(form, form_of, table)
            self.assertTrue(is_form(form))
            self.assertSame(form, (table[0], tuple(row for row in steps_of(table)[1] if not nought(row))))
            self.assertSame(len(form[1]), rank_of(table))
            self.assertTold(True, are_alike, table, form)

    def test_alike_tables_have_one(self):
        dice = random.Random(47)
        for table in wide_tables_by(47, 150, 99, 8):
            wide, many = table[0], len(table[1])
            self.assertSame(form_of(done(table, deeds_by(dice, many, 8))), form_of(table))
            self.assertSame(form_of(stacked(table, (wide, ((0,) * wide,)))), form_of(table))
            self.assertSame(form_of(stacked(table, (wide, (lattice_point(dice, table)[0],)))), form_of(table))

    def test_others_have_others(self):
        dice = random.Random(48)
        for one, other in zip(tables_of(dice, 2, 150), tables_of(dice, 2, 150)):
            self.assertSame(form_of(one) == form_of(other), are_alike(one, other))


class Most(Case):
    def test_known_ones(self):
        for table, most in [((1, ()), 0), ((4, ()), 0), ((2, ((0, 0),)), 1), ((2, ((0, 0), (0, 0), (0, 0))), 3),
                            ((1, ((-5,),)), 5), ((2, ((1, -2), (3, 4))), 42), ((2, ((1, -2), (0, 0), (3, 4))), 63),
                            ((4, ((99,) * 4,) * 4), 4 * 396 ** 4), ((4, ((-99, 99, -99, 99),)), 396)]:
            self.assertTold(most, most_of, table)

    def test_no_number_of_the_steps_table_is_greater(self):
        for table in wide_tables_by(49, 600, 99) + wide_tables_by(50, 300, 2):
            most = most_of(table)
            for row in steps_of(table)[1]:
                self.assertTrue(all(abs(number) <= most for number in row), table)


class Small:
    """All lattices of the plane that hold N times each point, by their points from 0 to below N."""

    def __init__(self, N):
        self.N = N
        self.tables = {}
        for a, b, c in itertools.product(range(N), repeat=3):
            table = (2, ((N, 0), (0, N), (a, b), (0, c)))
            self.tables.setdefault(self.points(table), table)

    def points(self, table):
        rows = table[1]
        return frozenset((sum(k * row[0] for k, row in zip(numbers, rows)) % self.N,
                          sum(k * row[1] for k, row in zip(numbers, rows)) % self.N)
                         for numbers in itertools.product([0], [0], range(self.N), range(self.N)))


class JoinsAndCommonParts(Case):
    def test_known_ones(self):
        for one, other, join, common in [
                ((1, ((4,),)), (1, ((6,),)), (1, ((2,),)), (1, ((12,),))),
                ((1, ((4,),)), (1, ()), (1, ((4,),)), (1, ())),
                ((1, ()), (1, ()), (1, ()), (1, ())),
                ((2, ((0, 0),)), (2, ((0, 0), (0, 0))), (2, ()), (2, ())),
                ((2, ((2, 0),)), (2, ((0, 3),)), (2, ((2, 0), (0, 3))), (2, ())),
                ((2, ((2, 4),)), (2, ((3, 6),)), (2, ((1, 2),)), (2, ((6, 12),))),
                ((2, ((1, 0), (0, 1))), (2, ((-5, 7),)), (2, ((1, 0), (0, 1))), (2, ((5, -7),))),
                ((2, ((1, 1), (0, 2))), (2, ((2, 0), (0, 1))), (2, ((1, 0), (0, 1))), (2, ((2, 0), (0, 2)))),
                ((3, ((1, 0, 0), (0, 1, 0))), (3, ((0, 1, 0), (0, 0, 1))), plain_unit(3), (3, ((0, 1, 0),))),
                ((3, ((1, 0, 0), (0, 2, 1))), (3, ((0, 4, 2), (0, 0, 1))), (3, ((1, 0, 0), (0, 2, 0), (0, 0, 1))),
                 (3, ((0, 4, 2),)))]:
            for first, second in ((one, other), (other, one)):
                self.assertTold(join, joined, first, second)
                self.assertTold(common, common_part, first, second)

    def test_all_small_ones(self):
        for N in (4, 6):
            small = Small(N)
            forms = {points: form_of(table) for points, table in small.tables.items()}
            for one, other in itertools.product(small.tables, repeat=2):
                sums = frozenset(((a[0] + b[0]) % N, (a[1] + b[1]) % N) for a in one for b in other)
                self.assertSame(joined(small.tables[one], small.tables[other]), forms[sums])
                self.assertSame(common_part(small.tables[one], small.tables[other]), forms[one & other])

    def test_they_are_forms_and_hang_on_the_lattices_alone(self):
        dice = random.Random(51)
        for wide in (1, 2, 3, 4):
            for one, other in zip(tables_of(dice, wide, 50, 99), tables_of(dice, wide, 50, 99)):
                join, common = joined(one, other), common_part(one, other)
                self.assertTold(join, joined, one, other)
                self.assertTold(common, common_part, one, other)
                self.assertTrue(is_form(join) and is_form(common))
                first = done(one, deeds_by(dice, len(one[1]), 6))
                second = form_of(other)
                for told, right in ((joined, join), (common_part, common)):
                    self.assertSame(told(first, second), right)
                    self.assertSame(told(second, first), right)

    def test_points_of_both(self):
        dice = random.Random(52)
        seen = []
        for wide in (1, 2, 3):
            for one, other in zip(tables_of(dice, wide, 60, 4), tables_of(dice, wide, 60, 4)):
                common, join = common_part(one, other), joined(one, other)
                for point in (point_by(dice, wide, 4), lattice_point(dice, one)[0], lattice_point(dice, common)[0]):
                    both = nought(rest_of(one, point)) and nought(rest_of(other, point))
                    self.assertSame(nought(rest_of(common, point)), both)
                    seen.append(both)
                for row in one[1] + other[1]:
                    self.assertTrue(nought(rest_of(join, row)))
                for row in join[1]:
                    word, numbers = point_paper(stacked(one, other), row)
                    self.assertSame(plain_times((len(numbers), (numbers,)), stacked(one, other))[1][0], row)
        self.assertGreater(seen.count(False), 50)

    def test_bounds_of_both(self):
        dice = random.Random(53)
        for wide in (1, 2, 3, 4):
            for one, other in zip(tables_of(dice, wide, 40, 99), tables_of(dice, wide, 40, 99)):
                join, common = joined(one, other), common_part(one, other)
                for table in (one, other):
                    self.assertTrue(inside(table, join) and inside(common, table))
                    self.assertSame(joined(table, table), form_of(table))
                    self.assertSame(common_part(table, table), form_of(table))
                    self.assertSame(joined(table, common), form_of(table))
                    self.assertSame(common_part(table, join), form_of(table))
                # The ranks of both are those of join and common part, as of planes.
                self.assertSame(rank_of(one) + rank_of(other), rank_of(join) + rank_of(common))


class Inside(Case):
    def test_known_ones(self):
        for one, other, right, about in [
                ((1, ()), (1, ()), 1, 1), ((1, ()), (1, ((5,),)), 0, None), ((2, ((0, 0),)), (2, ()), 1, 1),
                ((1, ((5,),)), (1, ((1,),)), 5, None), ((1, ((4,),)), (1, ((6,),)), None, None),
                ((1, ((4,),)), (1, ((-4,), (8,))), 1, 1), ((2, ((2, 0), (0, 3))), (2, ((1, 0), (0, 1))), 6, None),
                ((2, ((2, 4),)), (2, ((1, 2),)), 2, None), ((2, ((2, 4),)), (2, ((1, 2), (0, 1))), 0, None),
                ((2, ((2, 1), (0, 3))), (2, ((2, 0), (0, 3))), None, None), ((2, ((4, 2), (0, 6))), (2, ((2, 1), (0, 3))), 4, None),
                ((2, ((0, 6),)), (2, ((0, 2), (0, 0))), 3, None), ((3, ()), (3, ((0, 0, 7),)), 0, None)]:
            self.assertTold(right, index_of, one, other)
            self.assertTold(about, index_of, other, one)
            self.assertTold(right is not None, inside, one, other)
            self.assertTold(about is not None, inside, other, one)

    def test_all_small_ones(self):
        for N in (4, 6):
            small = Small(N)
            for one, other in itertools.product(small.tables, repeat=2):
                first, second = small.tables[one], small.tables[other]
                self.assertSame(inside(first, second), one <= other)
                self.assertSame(index_of(first, second), len(other) // len(one) if one <= other else None)

    def test_the_index_counts_the_rests(self):
        dice = random.Random(54)
        seen = set()
        for _ in range(200):
            wide = dice.randint(1, 3)
            other = form_of(table_by(dice, dice.randint(1, 2), wide, 3))
            rank = len(other[1])
            one = plain_times(table_by(dice, rank, rank, 2), other)
            index = index_of(one, other)
            if rank_of(one) != rank:
                self.assertSame(index, 0)
                continue
            # Index times each point of the other is in the one, so these sums have all the rests.
            rests = {rest_of(one, plain_times((rank, (numbers,)), other)[1][0])
                     for numbers in itertools.product(range(index), repeat=rank)}
            self.assertSame(len(rests), index)
            seen.add(index)
        self.assertGreater(len(seen), 4)

    def test_of_three_the_indexes_multiply(self):
        dice = random.Random(55)
        zeros = 0
        for _ in range(200):
            wide = dice.randint(1, 4)
            third = table_by(dice, dice.randint(0, 4), wide, 9)
            second = plain_times(table_by(dice, dice.randint(0, 4), len(third[1]), 2), third)
            first = plain_times(table_by(dice, dice.randint(0, 4), len(second[1]), 2), second)
            self.assertSame(index_of(first, third), index_of(first, second) * index_of(second, third))
            self.assertTrue(inside(first, second) and inside(second, third) and inside(first, third))
            zeros += index_of(first, third) == 0
        self.assertTrue(20 < zeros < 190)

    def test_the_common_part_and_the_join(self):
        dice = random.Random(56)
        for wide in (1, 2, 3, 4):
            for one, other in zip(tables_of(dice, wide, 60, 99), tables_of(dice, wide, 60, 99)):
                join, common = joined(one, other), common_part(one, other)
                self.assertSame(index_of(common, one), index_of(other, join))
                self.assertSame(index_of(common, other), index_of(one, join))

    def test_alike_ones(self):
        dice = random.Random(57)
        for table in wide_tables_by(57, 60, 99):
            led = done(table, deeds_by(dice, len(table[1]), 6))
            self.assertTold(1, index_of, table, led)
            self.assertTold(True, inside, led, table)
            doubled = (table[0], tuple(tuple(2 * number for number in row) for row in table[1]))
            self.assertTold(2 ** rank_of(table), index_of, doubled, led)

    def test_what_was_told_may_be_handed_in(self):
        for table in wide_tables_by(58, 40, 99):
            form, there, back = steps_paper(table)[1:]
            self.assertTold(1, index_of, form, table)
            self.assertTold(1, index_of, there, plain_unit(len(table[1])))
            self.assertTold(plain_unit(len(table[1])), common_part, there, back)


if __name__ == "__main__":
    unittest.main()
