"""Promise 86 (and 2, 5 and 7 of it)."""

import random
import unittest
from fractions import Fraction

from stepforms.backs import back_of
from stepforms.characters import character_of, poly_at
from stepforms.pcorners import pcorner
from stepforms.prounding import prounds_of
from stepforms.twinchecker import lets_twins
from stepforms.twinning import least_poly, twins_paper
from tests.helper import (
    Case, plain_corner, plain_product, plain_ptimes, plain_punit, plain_rest, plain_times, plain_turned, plain_unit, poly,
    table_by)
from tests.test_characters import plain_at, squares_by
from tests.test_twinchecker import plain_table

X = poly(0, 1)


def ways_by(dice, many):
    """A table of numbers with a BACK, and this, by the dice."""
    while True:
        over = table_by(dice, many, many, 1)
        if abs(plain_corner(over[1])) == 1:
            return over, back_of(over)


class Told(Case):
    def told(self, one, other):
        """The word that is told of the two, either way about, looked at."""
        paper = twins_paper(one, other)
        self.assertTold(True, lets_twins, one, other, paper)
        again = twins_paper(other, one)
        self.assertTold(True, lets_twins, other, one, again)
        self.assertSame(again[0], paper[0])
        forms = [prounds_of(character_of(table)) for table in (one, other)]
        self.assertSame(paper[0], "twins" if forms[0] == forms[1] else "strangers")
        if paper[0] == "twins":
            word, over, back = paper
            self.assertTrue(all(len(thing) <= 1 for part in (over, back) for row in part[1] for thing in row))
            self.assertSame(plain_ptimes(plain_table(one), over), plain_ptimes(over, plain_table(other)))
            self.assertSame(plain_ptimes(over, back), plain_punit(one[0]))
        return paper[0]


class Papers(Told):
    def test_known_ones(self):
        for one, other, word in [
                ((1, ((5,),)), (1, ((5,),)), "twins"), ((1, ((5,),)), (1, ((4,),)), "strangers"),
                ((2, ((1, 2), (3, 4))), (2, ((4, 3), (2, 1))), "twins"), ((2, ((1, 2), (3, 4))), (2, ((0, 2), (1, 5))), "twins"),
                ((2, ((1, 0), (0, 2))), (2, ((2, 0), (0, 1))), "twins"), ((2, ((1, 0), (0, 1))), (2, ((1, 1), (0, 1))), "strangers"),
                ((2, ((1, 1), (0, 1))), (2, ((1, 0), (-9, 1))), "twins"), ((2, ((0, -1), (1, 0))), (2, ((0, 1), (-1, 0))), "twins"),
                ((2, ((0, 1), (0, 0))), (2, ((0, 0), (0, 0))), "strangers"), ((2, ((0, 2), (1, 0))), (2, ((0, 1), (2, 0))), "twins"),
                ((3, ((1, 0, 0), (0, 1, 0), (0, 0, 2))), (3, ((1, 1, 0), (0, 1, 0), (0, 0, 2))), "strangers"),
                ((3, ((1, 0, 0), (0, 2, 0), (0, 0, 2))), (3, ((2, 0, 7), (0, 2, 5), (0, 0, 1))), "twins"),
                ((3, ((0, 1, 0), (0, 0, 1), (0, 0, 0))), (3, ((0, 1, 0), (0, 0, 0), (0, 0, 0))), "strangers"),
                ((3, ((0, 1, 0), (0, 0, 1), (0, 0, 0))), (3, ((0, 9, 9), (0, 0, -9), (0, 0, 0))), "twins")]:
            self.assertSame(self.told(one, other), word)

    def test_of_a_table_and_itself(self):
        for table in squares_by(86, 60):
            self.assertSame(self.told(table, table), "twins")

    def test_turned_over(self):
        for table in squares_by(87, 80):
            self.assertSame(self.told(table, plain_turned(table)), "twins")

    def test_led_by_a_table_with_a_back(self):
        dice = random.Random(88)
        for table in squares_by(88, 80, 2):
            over, back = ways_by(dice, table[0])
            self.assertSame(self.told(table, plain_times(plain_times(back, table), over)), "twins")

    def test_any_ones(self):
        dice = random.Random(89)
        met = {"twins": 0, "strangers": 0}
        for _ in range(200):
            many = dice.randint(1, 3)
            one, other = table_by(dice, many, many, 1), table_by(dice, many, many, 1)
            met[self.told(one, other)] += 1
        for table in squares_by(90, 40):
            met[self.told(table, table_by(dice, table[0], table[0], 9))] += 1
        self.assertGreater(min(met.values()), 10)

    def test_strangers_where_corners_are_unlike(self):
        dice = random.Random(91)
        for _ in range(60):
            one, other = table_by(dice, 2, 2, 9), table_by(dice, 2, 2, 9)
            same_sums = one[1][0][0] + one[1][1][1] == other[1][0][0] + other[1][1][1]
            if not same_sums or plain_corner(one[1]) != plain_corner(other[1]):
                self.assertSame(self.told(one, other), "strangers")


class Least(Case):
    def looked_at(self, table):
        """The least POLY, looked at by the document's words."""
        least = least_poly(table)
        self.assertTold(least, least_poly, table)
        self.assertSame(least[-1], (1, 1))
        nought = (table[0], (((),) * table[0],) * table[0])
        self.assertSame(plain_at(least, table), nought)
        self.assertSame(poly_at(least, table), nought)
        corner = pcorner(character_of(table))
        self.assertSame(plain_rest(corner, least), ())
        self.assertSame(plain_at(corner, table), nought)
        self.assertSame(prounds_of(character_of(table))[1][-1][-1], least)
        self.assertFalse(self.depend(table, len(least) - 1))
        return least

    def depend(self, table, count):
        """Whether some POLY but () of a lesser DEGREE than count is all () AT the table: its powers then depend."""
        power, rows = plain_unit(table[0]), []
        for _ in range(count):
            rows.append([Fraction(number) for row in power[1] for number in row])
            power = plain_times(power, table)
        rank = 0
        for column in range(table[0] ** 2):
            found = next((at for at in range(rank, len(rows)) if rows[at][column] != 0), None)
            if found is None:
                continue
            rows[rank], rows[found] = rows[found], rows[rank]
            for at in range(rank + 1, len(rows)):
                factor = rows[at][column] / rows[rank][column]
                rows[at] = [a - factor * b for a, b in zip(rows[at], rows[rank])]
            rank += 1
        return rank < count

    def test_known_ones(self):
        for table, least in [
                ((1, ((0,),)), X), ((1, ((-7,),)), poly(7, 1)), ((2, ((0, 0), (0, 0))), X), ((2, ((3, 0), (0, 3))), poly(-3, 1)),
                ((2, ((3, 1), (0, 3))), poly(9, -6, 1)), ((2, ((1, 2), (3, 4))), poly(-2, -5, 1)), ((2, ((0, -1), (1, 0))), poly(1, 0, 1)),
                ((3, ((1, 0, 0), (0, 2, 0), (0, 0, 2))), poly(2, -3, 1)), ((3, ((0, 1, 0), (0, 0, 1), (0, 0, 0))), poly(0, 0, 0, 1)),
                ((3, ((0, 1, 0), (0, 0, 0), (0, 0, 0))), poly(0, 0, 1)), ((3, ((5, 0, 0), (0, 5, 0), (0, 0, 5))), poly(-5, 1))]:
            self.assertSame(self.looked_at(table), least)

    def test_any_ones(self):
        for table in squares_by(92, 150):
            self.looked_at(table)

    def test_others_that_are_so_are_some_poly_times_it(self):
        for table in squares_by(93, 30, 2):
            least = least_poly(table)
            for factor in [poly(1), X, poly(-2, 1), poly(1, 2, 3), ((5, 7),)]:
                thing = plain_product(least, factor)
                self.assertSame(plain_at(thing, table), (table[0], (((),) * table[0],) * table[0]))

    def test_twins_have_one(self):
        for table in squares_by(94, 40):
            self.assertSame(least_poly(plain_turned(table)), least_poly(table))


if __name__ == "__main__":
    unittest.main()
