"""Promises 40 and 41 as far as the checker goes (and 2, 4 and 7 of them)."""

import random
import unittest

from stepforms.errors import NoPaper
from stepforms.pointchecker import lets_point
from stepforms.points import point_paper
from tests.helper import (
    ODD_THINGS, VERY_LONG, Case, lattice_point, plain_times, plain_whole, point_by, table_by, wide_tables_by, wrong_counts,
    wrong_kinds)

TABLE = (2, ((2, 0), (1, 3)))
POINT = (5, 3)
IN = ("in", (2, 1))
BEYOND = (0, 3)
OUT = ("out", ((1, 2), (1, 6)))


class Letting(Case):
    def refused(self, word, number, table, point, thing):
        self.assertRefused(NoPaper, {"word": word, "number": number}, lets_point, table, point, thing)


class Right(Letting):
    def test_in_and_out(self):
        self.assertTold(True, lets_point, TABLE, POINT, IN)
        self.assertTold(True, lets_point, TABLE, BEYOND, OUT)

    def test_others_than_the_told_ones(self):
        for numbers in [(2, 0, 5), (0, 2, -5), (1, 1, 0), (7, -5, VERY_LONG)]:
            self.assertTold(True, lets_point, (1, ((2,), (2,), (0,))), (4,), ("in", numbers))
        for parts in [((-1, 2), (1, 6)), ((3, 2), (-1, 6)), ((1, 2), (-5, 6)), ((1, 2), (VERY_LONG * 6 + 1, 6))]:
            self.assertTold(True, lets_point, TABLE, BEYOND, ("out", parts))
        for parts in [((1, 2),), ((1, 3),), ((-5, VERY_LONG),)]:
            self.assertTold(True, lets_point, (1, ()), (7,), ("out", parts))

    def test_tables_without_rows(self):
        self.assertTold(True, lets_point, (3, ()), (0, 0, 0), ("in", ()))
        self.assertTold(True, lets_point, (3, ()), (0, 0, -999), ("out", ((0, 1), (0, 1), (1, 2))))

    def test_nought_rows_and_rows_twice(self):
        self.assertTold(True, lets_point, (2, ((0, 0), (0, 0))), (0, 0), ("in", (8, -9)))
        self.assertTold(True, lets_point, (2, ((0, 0), (0, 0))), (1, 0), ("out", ((1, 2), (1, 2))))
        self.assertTold(True, lets_point, (2, ((1, 2), (1, 2))), (999, 1998), ("in", (1000, -1)))
        self.assertTold(True, lets_point, (2, ((1, 2), (1, 2))), (1, 1), ("out", ((0, 1), (1, 2))))

    def test_eight_rows(self):
        rows = ((2, 0, 0, 0), (0, 2, 0, 0), (0, 0, 2, 0), (0, 0, 0, 2), (2, 2, 0, 0), (0, 2, 2, 0), (99, 99, 0, 0), (0,) * 4)
        self.assertTold(True, lets_point, (4, rows), (101, 99, -2, 4), ("in", (1, 0, -1, 2, 0, 0, 1, 5)))
        self.assertTold(True, lets_point, (4, rows), (999, 998, 0, 0), ("out", ((1, 2), (1, 2), (0, 1), (0, 1))))
        self.refused("part", 6, (4, rows), (999, 998, 0, 0), ("out", ((1, 2), (0, 1), (0, 1), (0, 1))))

    def test_a_very_great_wide(self):
        self.refused("shape", 0, (VERY_LONG, ()), (), ("out", ()))


class Wrong(Letting):
    def test_sum_alone(self):
        for numbers, point, j in [((2, 1), (4, 3), 0), ((2, 1), (5, 2), 1), ((2, 1), (4, 2), 0), ((1, 1), POINT, 0),
                                  ((2, 2), POINT, 0), ((3, -1), POINT, 1), ((VERY_LONG, 1), POINT, 0)]:
            self.refused("sum", j, TABLE, point, ("in", numbers))
        self.refused("sum", 0, (3, ()), (5, 0, 0), ("in", ()))
        self.refused("sum", 2, (3, ()), (0, 0, 5), ("in", ()))
        self.refused("sum", 1, (2, ((0, 0),)), (0, 1), ("in", (7,)))

    def test_part_alone(self):
        for parts, i in [(((1, 2), (0, 1)), 1), (((1, 3), (2, 9)), 0), (((1, 3), (0, 1)), 0), (((0, 1), (1, 6)), 1)]:
            self.refused("part", i, TABLE, BEYOND, ("out", parts))
        self.refused("part", 2, (1, ((0,), (4,), (3,))), (2,), ("out", ((1, 4),)))

    def test_whole_alone(self):
        for parts in [((0, 1), (0, 1)), ((1, 1), (1, 3)), ((-7, 1), (2, 3))]:
            self.refused("whole", 0, TABLE, BEYOND, ("out", parts))
        self.refused("whole", 0, TABLE, POINT, OUT)
        self.refused("whole", 0, (3, ()), (0, 0, 0), ("out", ((1, 2), (1, 3), (1, 5))))
        self.refused("whole", 0, (2, ((0, 0),)), (2, 0), ("out", ((1, 2), (1, 2))))

    def test_of_two_faults_the_first_goes(self):
        self.refused("part", 1, TABLE, BEYOND, ("out", ((1, 1), (1, 2))))
        self.refused("part", 0, TABLE, (3, 0), ("out", ((1, 3), (1, 2))))
        self.refused("shape", 0, TABLE, BEYOND, ("in", (1, True)))
        self.refused("shape", 0, TABLE, BEYOND, ("out", ((1, 3), (2, 4))))

    def test_shape(self):
        for thing in ODD_THINGS + [list(IN), list(OUT), "in", "out", ("in",), ("out",), ("in", None), ("out", None)]:
            self.refused("shape", 0, TABLE, POINT, thing)
            self.refused("shape", 0, TABLE, BEYOND, thing)
        for thing in wrong_counts(IN) + wrong_kinds(IN) + [("in", (2, 1), ()), ("in", 2, 1), ((2, 1), "in")]:
            self.refused("shape", 0, TABLE, POINT, thing)
        for thing in wrong_counts(OUT) + wrong_kinds(OUT) + [("out",) + OUT[1], (OUT[1], "out")]:
            self.refused("shape", 0, TABLE, BEYOND, thing)

    def test_shape_of_words(self):
        for word in ["", "In", "IN", "in ", "Out", "ins", None, True, 1, ("in",), ["in"], ("out",)]:
            self.refused("shape", 0, TABLE, POINT, (word, IN[1]))
            self.refused("shape", 0, TABLE, BEYOND, (word, OUT[1]))
        self.refused("shape", 0, TABLE, POINT, ("out", IN[1]))
        self.refused("shape", 0, TABLE, BEYOND, ("in", OUT[1]))

    def test_shape_of_numbers(self):
        for numbers in [(), (2,), (2, 1, 0), [2, 1], (2, True), (2, None), (2, "1"), (2, (1,)), (2, [1]), None, 2, "21",
                        ((2, 1),), (2, (1, 1))]:
            self.refused("shape", 0, TABLE, POINT, ("in", numbers))
        for numbers in [(0,), None, [], 0]:
            self.refused("shape", 0, (2, ()), (0, 0), ("in", numbers))
        # As many numbers as it has rows, not as it is wide.
        self.refused("shape", 0, (1, ((2,), (3,))), (2,), ("in", (1,)))
        self.refused("shape", 0, (2, ((2, 0),)), (2, 0), ("in", (1, 0)))

    def test_shape_of_parts(self):
        for parts in [(), ((1, 2),), OUT[1] + ((0, 1),), list(OUT[1]), ((1, 2), (2, 12)), ((1, 2), (1, 0)), ((1, 2), (-1, -6)),
                      ((1, 2), [1, 6]), ((1, 2), 1), ((1, 2), (True, 6)), ((3, True), (1, 6)), ((0, 2), (1, 6)), ((1, 2), None),
                      ((1, 2), (1, 6, 1)), None, 1, "12"]:
            self.refused("shape", 0, TABLE, BEYOND, ("out", parts))
        # As many parts as it is wide, not as it has rows.
        self.refused("shape", 0, (1, ((2,), (4,))), (1,), ("out", ((1, 2), (1, 2))))


class LetBy(Case):
    def test_what_is_let_by_is_so(self):
        dice = random.Random(40)
        told_so = {"in": 0, "out": 0}
        for _ in range(1500):
            wide, many = dice.randint(1, 2), dice.randint(0, 2)
            table, point = table_by(dice, many, wide, 2), point_by(dice, wide, 2)
            numbers = point_by(dice, many, 1)
            parts = tuple(dice.choice([(0, 1), (1, 2), (1, 1), (-1, 2), (1, 3)]) for _ in range(wide))
            summed = plain_times((many, (numbers,)), table)[1][0] == point
            barred = all(plain_whole(row, parts) for row in table[1]) and not plain_whole(point, parts)
            self.assertFalse(summed and barred)
            for thing, right in ((("in", numbers), summed), (("out", parts), barred)):
                try:
                    told = lets_point(table, point, thing)
                except NoPaper:
                    told = False
                self.assertSame(told, right)
                told_so[thing[0]] += told
        self.assertGreater(min(told_so.values()), 100)

    def test_never_both(self):
        dice = random.Random(41)
        for table in wide_tables_by(41, 150, 99, 8):
            point, numbers = lattice_point(dice, table)
            self.assertTold(True, lets_point, table, point, ("in", numbers))
            for _ in range(5):
                parts = tuple(dice.choice([(0, 1), (1, 2), (1, 3), (2, 3), (5, 6)]) for _ in range(table[0]))
                with self.assertRaises(NoPaper):
                    lets_point(table, point, ("out", parts))
            beyond = point_by(dice, table[0])
            paper = point_paper(table, beyond)
            if paper[0] == "out":
                with self.assertRaises(NoPaper):
                    lets_point(table, beyond, ("in", numbers))
                with self.assertRaises(NoPaper):
                    lets_point(table, point, paper)


if __name__ == "__main__":
    unittest.main()
