"""Promises 30 and 31 (and 2 and 7 of them)."""

import random
import unittest

from stepforms.alikechecker import lets_alike
from stepforms.errors import NoPaper
from stepforms.tables import times
from tests.helper import ODD_THINGS, VERY_LONG, Case, plain_unit, table_by, wrong_counts, wrong_kinds

ONE = (2, ((2, 0), (0, 3)))
OTHER = (2, ((2, 3), (0, 3), (2, 0)))
ALIKE = ("alike", (2, ((1, 1), (0, 1), (1, 0))), (3, ((1, -1, 0), (0, 1, 0))))
WIDER = (2, ((1, 0), (0, 3)))
APART = ("apart", 1, 0, ((1, 2), (0, 1)))


class Letting(Case):
    def refused(self, word, number, one, other, thing):
        self.assertRefused(NoPaper, {"word": word, "number": number}, lets_alike, one, other, thing)


class AlikePapers(Letting):
    def test_right_papers(self):
        self.assertTold(True, lets_alike, ONE, OTHER, ALIKE)
        self.assertTold(True, lets_alike, OTHER, ONE, ("alike", ALIKE[2], ALIKE[1]))
        self.assertTold(True, lets_alike, ONE, OTHER, ("alike", ALIKE[1], (3, ((0, 0, 1), (0, 1, 0)))))

    def test_tables_without_rows_and_of_no_width(self):
        self.assertTold(True, lets_alike, (3, ()), (3, ()), ("alike", (0, ()), (0, ())))
        self.assertTold(True, lets_alike, (VERY_LONG, ()), (VERY_LONG, ()), ("alike", (0, ()), (0, ())))
        self.assertTold(True, lets_alike, (2, ()), (2, ((0, 0),)), ("alike", (0, ((),)), (1, ())))
        self.assertTold(True, lets_alike, (2, ((0, 0),)), (2, ()), ("alike", (1, ()), (0, ((),))))
        self.assertTold(True, lets_alike, (0, ((),)), (0, ((), ())), ("alike", (1, ((5,), (-7,))), (2, ((8, VERY_LONG),))))

    def test_over_alone(self):
        again = ALIKE[2]
        for rows, k in [(((1, 0), (0, 1), (1, 0)), 0), (((1, 1), (0, 2), (1, 0)), 1), (((1, 1), (0, 1), (1, 1)), 2),
                        (((1, 1), (0, 2), (1, 1)), 1)]:
            self.refused("over", k, ONE, OTHER, ("alike", (2, rows), again))

    def test_again_alone(self):
        over = ALIKE[1]
        for rows, k in [(((1, 0, 0), (0, 1, 0)), 0), (((1, -1, 0), (0, 0, 0)), 1), (((0, 0, 0), (0, 0, 0)), 0)]:
            self.refused("again", k, ONE, OTHER, ("alike", over, (3, rows)))

    def test_a_lattice_within_the_other_is_not_alike(self):
        self.refused("again", 0, WIDER, ONE, ("alike", (2, ((2, 0), (0, 1))), plain_unit(2)))
        self.refused("over", 0, ONE, WIDER, ("alike", plain_unit(2), (2, ((2, 0), (0, 1)))))

    def test_of_two_faults_the_first_goes(self):
        self.refused("over", 2, ONE, OTHER, ("alike", (2, ((1, 1), (0, 1), (1, 1))), (3, ((0, 0, 0), (0, 0, 0)))))
        self.refused("shape", 0, ONE, OTHER, ("alike", (2, ((1, 1), (0, 1), (1, 1))), (2, ((0, 0), (0, 0)))))

    def test_shape(self):
        for thing in ODD_THINGS + wrong_counts(ALIKE) + wrong_kinds(ALIKE) + [list(ALIKE), ("apart",) + ALIKE[1:]]:
            self.refused("shape", 0, ONE, OTHER, thing)
        over, again = ALIKE[1:]
        for thing in [("alike", again, over), ("alike", (2, over[1][:2]), again), ("alike", over, (3, again[1][:1])),
                      ("alike", over, (2, ((1, -1), (0, 1)))), ("alike", (3, ((1, 1, 0), (0, 1, 0), (1, 0, 0))), again),
                      ("Alike", over, again), ("", over, again), ("alike", over, again, ()),
                      ("alike", (2, over[1] + ((0, 0),)), again), ("alike", over, (3, again[1] + ((0, 0, 0),)))]:
            self.refused("shape", 0, ONE, OTHER, thing)
        self.refused("shape", 0, (3, ()), (3, ()), ("alike", (3, ()), (0, ())))


class ApartPapers(Letting):
    def test_right_papers(self):
        self.assertTold(True, lets_alike, ONE, WIDER, APART)
        self.assertTold(True, lets_alike, WIDER, ONE, ("apart", 0, 0, APART[3]))
        self.assertTold(True, lets_alike, ONE, WIDER, ("apart", 1, 0, ((-7, 2), (5, 3))))
        self.assertTold(True, lets_alike, ONE, WIDER, ("apart", 1, 0, ((VERY_LONG * 2 + 1, 2), (VERY_LONG, 1))))

    def test_against_a_table_without_rows(self):
        self.assertTold(True, lets_alike, (1, ((5,),)), (1, ()), ("apart", 0, 0, ((1, 2),)))
        self.assertTold(True, lets_alike, (1, ()), (1, ((0,), (5,))), ("apart", 1, 1, ((1, 7),)))

    def test_part_alone(self):
        for parts, k in [(((1, 3), (0, 1)), 0), (((1, 2), (1, 2)), 1), (((1, 3), (1, 2)), 0)]:
            self.refused("part", k, ONE, WIDER, ("apart", 1, 0, parts))
            self.refused("part", k, WIDER, ONE, ("apart", 0, 0, parts))

    def test_whole_alone(self):
        for row, parts in [(0, ((0, 1), (0, 1))), (0, ((1, 1), (2, 3))), (1, ((1, 2), (0, 1))), (1, ((1, 2), (1, 3)))]:
            self.refused("whole", row, ONE, WIDER, ("apart", 1, row, parts))
            self.refused("whole", row, WIDER, ONE, ("apart", 0, row, parts))
        self.refused("whole", 1, (0, ((), ())), (0, ()), ("apart", 0, 1, ()))
        self.refused("whole", 1, (1, ()), (1, ((5,), (0,))), ("apart", 1, 1, ((1, 7),)))

    def test_sides_are_not_mixed_up(self):
        # Each row of ONE is a POINT of WIDER's LATTICE, so nothing bars one of them.
        for row in (0, 1):
            self.refused("part", 0, ONE, WIDER, ("apart", 0, row, ((1, 2), (0, 1))))
            self.refused("whole", row, ONE, WIDER, ("apart", 0, row, ((1, 1), (1, 3))))

    def test_of_two_faults_the_first_goes(self):
        self.refused("part", 1, ONE, WIDER, ("apart", 1, 0, ((1, 1), (1, 2))))
        self.refused("part", 0, ONE, OTHER, ("apart", 1, 1, ((1, 5), (1, 1))))
        self.refused("shape", 0, ONE, WIDER, ("apart", 2, 0, ((1, 3), (1, 2))))

    def test_shape(self):
        for thing in ODD_THINGS + wrong_counts(APART) + wrong_kinds(APART) + [list(APART), ("alike",) + APART[1:]]:
            self.refused("shape", 0, ONE, WIDER, thing)
        parts = APART[3]
        for side, row in [(2, 0), (-1, 0), (True, 0), (False, 0), (None, 0), ("1", 0), (VERY_LONG, 0), (1, 2), (1, -1),
                          (0, 2), (1, True), (1, False), (0, False), (1, None), (1, "0"), (1, VERY_LONG), ((1,), 0), ([], 0)]:
            self.refused("shape", 0, ONE, WIDER, ("apart", side, row, parts))
        for wrong in [(), ((1, 2),), parts + ((0, 1),), list(parts), ((2, 4), (0, 1)), ((1, 2), (0, 2)), ((1, 2), (0, 0)),
                      ((1, -2), (0, 1)), ((1, 2), [0, 1]), ((1, 2), 0), ((1, 2), (0, True)), ((True, 2), (0, 1)),
                      ((1, 2), (False, 1)), ((1, 2), None), ((1, 2), (0, 1, 1)), ((VERY_LONG, VERY_LONG), (0, 1)), None, 0]:
            self.refused("shape", 0, ONE, WIDER, ("apart", 1, 0, wrong))

    def test_a_row_beyond(self):
        self.refused("shape", 0, (1, ()), (1, ((5,),)), ("apart", 0, 0, ((1, 2),)))
        self.refused("shape", 0, (1, ()), (1, ((5,),)), ("apart", 1, 1, ((1, 2),)))
        self.refused("shape", 0, (2, ()), (2, ()), ("apart", 1, 0, ((1, 2), (0, 1))))
        self.assertTold(True, lets_alike, ONE, (2, ((0, 0), (0, 0), (1, 0))), ("apart", 1, 2, ((1, 2), (0, 1))))
        self.refused("shape", 0, ONE, (2, ((0, 0), (0, 0), (1, 0))), ("apart", 0, 2, ((1, 2), (0, 1))))


class LetBy(Case):
    def test_never_both(self):
        # Whatever parts are tried, no APART PAPER is let by of tables that have an ALIKE PAPER.
        dice = random.Random(31)
        for _ in range(400):
            side = dice.randint(0, 1)
            row = dice.randrange((2, 3)[side])
            parts = tuple(dice.choice([(0, 1), (1, 2), (1, 3), (2, 3), (5, 6), (1, 1), (-1, 2)]) for _ in range(2))
            with self.assertRaises(NoPaper):
                lets_alike(ONE, OTHER, ("apart", side, row, parts))

    def test_what_is_let_by_is_so(self):
        dice = random.Random(32)
        for _ in range(300):
            one, other = table_by(dice, 1, 2, 1), table_by(dice, 1, 2, 1)
            over, again = table_by(dice, 1, 1, 1), table_by(dice, 1, 1, 1)
            right = times(over, one) == other and times(again, other) == one
            try:
                told = lets_alike(one, other, ("alike", over, again))
            except NoPaper:
                told = False
            self.assertSame(told, right)


if __name__ == "__main__":
    unittest.main()
