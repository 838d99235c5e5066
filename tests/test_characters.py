"""Promise 84 (and 2 of it)."""

import random
import unittest
from fractions import Fraction

from stepforms.characters import character_of, poly_at
from stepforms.pcorners import pcorner
from stepforms.ptables import is_ptable, ptimes
from tests.helper import Case, plain, plain_ptimes, plain_sum, plain_times, plain_unit, poly, poly_by, table_by

X = poly(0, 1)


def squares_by(seed, count, most=9):
    """SQUARE tables of one to three rows, many of them with noughts."""
    dice = random.Random(seed)
    for _ in range(count):
        many = dice.randint(1, 3)
        yield table_by(dice, many, many, dice.choice([1, 2, most]))


def plain_at(thing, table):
    """A POLY at a table, by its powers as products of tables of numbers."""
    many = table[0]
    power, total = plain_unit(many), [[Fraction(0)] * many for _ in range(many)]
    for part in plain(thing):
        for i, row in enumerate(power[1]):
            for j, number in enumerate(row):
                total[i][j] += part * number
        power = plain_times(power, table)
    return (many, tuple(tuple(poly(number) for number in row) for row in total))


class Characters(Case):
    def test_known_ones(self):
        for table, right in [
                ((1, ((0,),)), (1, ((((0, 1), (1, 1)),),))), ((1, ((-9,),)), (1, ((((9, 1), (1, 1)),),))),
                ((2, ((1, 2), (0, -4))), (2, ((((-1, 1), (1, 1)), ((-2, 1),)), ((), ((4, 1), (1, 1)))))),
                ((2, ((0, 0), (0, 0))), (2, ((X, ()), ((), X)))), ((2, ((0, 1), (-1, 0))), (2, ((X, poly(-1)), (poly(1), X)))),
                ((3, ((1, 0, 3), (0, 0, -6), (7, 8, 9))),
                 (3, ((poly(-1, 1), (), poly(-3)), ((), X, poly(6)), (poly(-7), poly(-8), poly(-9, 1)))))]:
            self.assertTold(right, character_of, table)

    def test_any_ones(self):
        for table in squares_by(84, 80):
            right = (table[0], tuple(tuple(poly(-number, 1) if i == j else poly(-number) for j, number in enumerate(row))
                                     for i, row in enumerate(table[1])))
            self.assertTold(right, character_of, table)
            self.assertTold(True, is_ptable, character_of(table))

    def test_its_corner(self):
        for table in squares_by(85, 40):
            corner = pcorner(character_of(table))
            self.assertSame((len(corner), corner[-1]), (table[0] + 1, (1, 1)))
            self.assertSame(corner[-2], (-sum(table[1][k][k] for k in range(table[0])), 1))


class At(Case):
    def test_known_ones(self):
        table = (2, ((1, 2), (3, 4)))
        nought = (2, (((), ()), ((), ())))
        for thing, right in [
                ((), nought), (poly(1), (2, ((poly(1), ()), ((), poly(1))))), (((-5, 3),), (2, ((((-5, 3),), ()), ((), ((-5, 3),))))),
                (X, (2, ((poly(1), poly(2)), (poly(3), poly(4))))), (poly(0, 0, 1), (2, ((poly(7), poly(10)), (poly(15), poly(22))))),
                (poly(-2, -5, 1), nought), (((1, 2), (1, 2)), (2, ((poly(1), poly(1)), (((3, 2),), ((5, 2),)))))]:
            self.assertTold(right, poly_at, thing, table)
        self.assertTold((1, (((),),)), poly_at, (), (1, ((7,),)))
        self.assertTold((1, (((),),)), poly_at, poly(-7, 1), (1, ((7,),)))
        self.assertTold((3, ((poly(4), (), ()), ((), poly(4), ()), ((), (), poly(4)))), poly_at, poly(4, 5, 6), (3, ((0, 0, 0),) * 3))

    def test_any_ones(self):
        dice = random.Random(86)
        for table in squares_by(87, 60):
            for thing in [poly_by(dice, 7, 9999, 9999), poly_by(dice, 7, 5), poly_by(dice, 2, 9, 3),
                          poly(*[dice.randint(1, 9) for _ in range(8)])]:
                self.assertTold(plain_at(thing, table), poly_at, thing, table)

    def test_sums_and_products(self):
        dice = random.Random(88)
        for table in squares_by(89, 20):
            one, other = poly_by(dice, 3, 9, 3), poly_by(dice, 3, 9, 3)
            first, second = poly_at(one, table), poly_at(other, table)
            added = tuple(tuple(plain_sum(a, b) for a, b in zip(row, more)) for row, more in zip(first[1], second[1]))
            self.assertSame(poly_at(plain_sum(one, other), table), (table[0], added))
            self.assertSame(ptimes(first, second), ptimes(second, first))
            self.assertSame(plain_ptimes(first, second), ptimes(first, second))

    def test_the_corner_of_the_character(self):
        for table in squares_by(90, 40):
            self.assertSame(poly_at(pcorner(character_of(table)), table), (table[0], (((),) * table[0],) * table[0]))


if __name__ == "__main__":
    unittest.main()
