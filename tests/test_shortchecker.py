"""Promises 33 and 34 (and 2 and 7 of them)."""

import unittest

from stepforms.errors import NoPaper
from stepforms.shortchecker import lets_short
from tests.helper import ODD_THINGS, VERY_LONG, Case, plain_unit, wrong_counts, wrong_kinds

TABLE = (2, ((1, 0), (5, 2)))
PAPER = ("short", (2, ((1, 0), (0, 2))), (2, ((1, 0), (-5, 1))), (2, ((1, 0), (5, 1))))
UNIT = plain_unit(2)


class Letting(Case):
    def refused(self, word, number, table, thing):
        self.assertRefused(NoPaper, {"word": word, "number": number}, lets_short, table, thing)

    def test_right_papers(self):
        self.assertTold(True, lets_short, TABLE, PAPER)
        self.assertTold(True, lets_short, TABLE, ("short", (2, ((-1, 0), (0, 2))), (2, ((-1, 0), (-5, 1))),
                                                  (2, ((-1, 0), (-5, 1)))))

    def test_edges_of_order_and_slant(self):
        # As long as one another; twice the product just the length of a, with either sign.
        for rows in [((1, 0), (0, 1)), ((2, 0), (1, 2)), ((2, 0), (-1, 2)), ((0, 3), (3, 0)), ((0, 0), (0, 1)), ((0, 0), (0, 0))]:
            self.assertTold(True, lets_short, (2, rows), ("short", (2, rows), UNIT, UNIT))
        self.assertTold(True, lets_short, (3, ((1, -1, 0), (0, 1, -1))), ("short", (3, ((1, -1, 0), (0, 1, -1))), UNIT, UNIT))

    def test_of_no_width_and_on_one_line(self):
        self.assertTold(True, lets_short, (0, ((), ())), ("short", (0, ((), ())), UNIT, UNIT))
        self.assertTold(True, lets_short, (0, ((), ())), ("short", (0, ((), ())), (2, ((0, 0), (5, VERY_LONG))), UNIT))
        self.assertTold(True, lets_short, (1, ((4,), (6,))), ("short", (1, ((0,), (2,))), (2, ((3, -2), (-1, 1))),
                                                              (2, ((1, 2), (1, 3)))))
        # Over and again need not be one another's back where the rows lie on one line.
        self.assertTold(True, lets_short, (1, ((4,), (6,))), ("short", (1, ((0,), (2,))), (2, ((0, 0), (-1, 1))),
                                                              (2, ((0, 2), (7, 3)))))

    def test_shape(self):
        for thing in ODD_THINGS + wrong_counts(PAPER) + wrong_kinds(PAPER) + [list(PAPER)]:
            self.refused("shape", 0, TABLE, thing)
        rows, over, again = PAPER[1:]
        for thing in [("Short", rows, over, again), ("steps", rows, over, again), ("short", (2, rows[1][:1]), over, again),
                      ("short", (2, rows[1] + ((0, 0),)), over, again), ("short", (3, ((1, 0, 0), (0, 2, 0))), over, again),
                      ("short", (1, ((1,), (0,))), over, again), ("short", rows, (2, over[1][:1]), again),
                      ("short", rows, plain_unit(3), again), ("short", rows, (3, ((1, 0, 0), (-5, 1, 0))), again),
                      ("short", rows, over, (2, again[1] + ((0, 0),))), ("short", rows, over, (1, ((1,), (5,)))),
                      ("short", rows, over, (0, ()))]:
            self.refused("shape", 0, TABLE, thing)

    def test_over_alone(self):
        rows, again = PAPER[1], PAPER[3]
        for wrong, k in [(((1, 1), (-5, 1)), 0), (((1, 0), (-4, 1)), 1), (((0, 0), (0, 0)), 0)]:
            self.refused("over", k, TABLE, ("short", rows, (2, wrong), again))

    def test_again_alone(self):
        rows, over = PAPER[1], PAPER[2]
        for wrong, k in [(((1, 1), (5, 1)), 0), (((1, 0), (5, 2)), 1), (((0, 0), (0, 0)), 0)]:
            self.refused("again", k, TABLE, ("short", rows, over, (2, wrong)))
        # Short rows of another lattice within the table's: over is right, again can't be.
        self.refused("again", 1, TABLE, ("short", (2, ((1, 0), (0, 4))), (2, ((1, 0), (-10, 2))), (2, ((1, 0), (5, 1)))))

    def test_order_alone(self):
        turned = (2, ((0, 2), (1, 0)))
        self.refused("order", 0, turned, ("short", turned, UNIT, UNIT))
        nought = (2, ((1, 0), (0, 0)))
        self.refused("order", 0, nought, ("short", nought, UNIT, UNIT))

    def test_slant_alone(self):
        for rows in [((2, 0), (2, 2)), ((2, 0), (-2, 2)), ((1, 0), (1, 0)), ((1, 0), (-1, 0)), ((3, 0), (2, 9)), ((1, 0), (5, 2))]:
            self.refused("slant", 0, (2, rows), ("short", (2, rows), UNIT, UNIT))

    def test_of_two_faults_the_first_goes(self):
        both = (2, ((2, 2), (2, 0)))
        self.refused("order", 0, both, ("short", both, UNIT, UNIT))
        self.refused("over", 1, both, ("short", both, (2, ((1, 0), (1, 1))), UNIT))
        self.refused("again", 0, both, ("short", both, UNIT, (2, ((0, 1), (1, 1)))))
        self.refused("over", 0, both, ("short", both, (2, ((0, 1), (1, 0))), (2, ((0, 1), (1, 0)))))
        self.refused("shape", 0, both, ("short", both, (2, ((0, 1), (1, 0))), plain_unit(1)))


if __name__ == "__main__":
    unittest.main()
