"""Promises 25, 26 and 27 (and 2 and 7 of them)."""

import random
import unittest

from stepforms.deeds import deeds_table, led_back
from stepforms.errors import NoPaper
from stepforms.stepchecker import is_steps, lets_steps
from stepforms.tables import times
from tests.helper import ODD_THINGS, VERY_LONG, Case, deeds_by, plain_unit, table_by, wrong_counts, wrong_kinds

STEPS = [
    (0, ()), (3, ()), (VERY_LONG, ()), (0, ((), ())), (1, ((0,), (0,))), (1, ((5,), (0,))), (2, ((0, 1),)),
    (2, ((3, 1), (0, 2))), (2, ((3, 0), (0, 2))), (2, ((3, -7), (0, 0))), (3, ((2, -9, 4), (0, 0, 5))),
    (3, ((0, 1, 0), (0, 0, 1), (0, 0, 0), (0, 0, 0))), (2, ((VERY_LONG, VERY_LONG), (0, VERY_LONG + 1))),
    (3, ((4, 1, 6), (0, 2, 6), (0, 0, 7))), (4, ((1, 0, -5, 2), (0, 1, 99, 0), (0, 0, 0, 3))),
]
NO_STEPS = [
    (1, ((0,), (1,))), (2, ((1, 0), (0, 0), (0, 1))), (2, ((0, 0), (0, 0), (0, 1))), (2, ((0, 1), (1, 0))),
    (2, ((1, 0), (1, 0))), (2, ((0, 1), (0, 1))), (1, ((-1,),)), (2, ((1, 0), (0, -1))), (2, ((3, -1), (0, 2))),
    (2, ((3, 2), (0, 2))), (2, ((3, 5), (0, 2))), (3, ((4, 1, 7), (0, 2, 6), (0, 0, 7))),
    (3, ((4, 1, 6), (0, 2, -1), (0, 0, 7))), (2, ((1, 0), (0, 1), (0, 2))), (2, ((1, 1), (0, 1))),
]


class Looks(Case):
    def test_steps(self):
        for thing in STEPS:
            self.assertTold(True, is_steps, thing)

    def test_no_steps(self):
        for thing in NO_STEPS + ODD_THINGS:
            self.assertTold(False, is_steps, thing)

    def test_no_tables(self):
        for thing in [(2, ((True, 0), (0, 1))), (2, ((1, False), (0, 1))), (2, [(1, 0)]), (2, ([1, 0],)), [2, ((1, 0),)],
                      (2, ((1, 0, 0),)), (-1, ()), (True, ((1,),)), (VERY_LONG, ((),)), (2, ((1, 0), None))]:
            self.assertTold(False, is_steps, thing)


class Letting(Case):
    def refused(self, word, number, table, thing):
        self.assertRefused(NoPaper, {"word": word, "number": number}, lets_steps, table, thing)

    TABLE = (3, ((2, 4, 4), (4, 9, 10)))
    PAPER = ("steps", (3, ((2, 0, -4), (0, 1, 2))), (2, ((9, -4), (-2, 1))), (2, ((1, 4), (2, 9))))

    def test_right_papers(self):
        self.assertTold(True, lets_steps, self.TABLE, self.PAPER)
        for table in [(0, ()), (3, ()), (VERY_LONG, ())]:
            self.assertTold(True, lets_steps, table, ("steps", table, (0, ()), (0, ())))
        table = (0, ((), ()))
        for there in [plain_unit(2), (2, ((0, 1), (1, 0)))]:
            self.assertTold(True, lets_steps, table, ("steps", table, there, there))

    def test_papers_are_not_one_alone(self):
        # One row twice: each way to take the one from the other is a right paper.
        table = (1, ((3,), (3,)))
        for k in (0, 1, -5, VERY_LONG):
            there, back = (2, ((1 - k, k), (-1, 1))), (2, ((1, -k), (1, 1 - k)))
            self.assertTold(True, lets_steps, table, ("steps", (1, ((3,), (0,))), there, back))

    def test_papers_made_by_deeds(self):
        dice = random.Random(26)
        for form in STEPS:
            many = len(form[1])
            if form[0] > 4:
                continue
            for _ in range(10):
                deeds = deeds_by(dice, many, 6)
                back, there = deeds_table(many, deeds), deeds_table(many, led_back(deeds))
                self.assertTold(True, lets_steps, times(back, form), ("steps", form, there, back))

    def test_shape(self):
        for thing in ODD_THINGS + wrong_counts(self.PAPER) + wrong_kinds(self.PAPER) + [list(self.PAPER)]:
            self.refused("shape", 0, self.TABLE, thing)
        form, there, back = self.PAPER[1:]
        for thing in [("Steps", form, there, back), ("", form, there, back), ("alike", form, there, back),
                      (form, "steps", there, back), ("steps", (3, form[1][:1]), there, back),
                      ("steps", (3, form[1] + ((0, 0, 0),)), there, back), ("steps", (2, ((2, 0), (0, 1))), there, back),
                      ("steps", form, (2, there[1][:1]), back), ("steps", form, (3, ((9, -4, 0), (-2, 1, 0))), back),
                      ("steps", form, plain_unit(3), back), ("steps", form, there, plain_unit(3)),
                      ("steps", form, there, (2, back[1][:1])), ("steps", form, there, (2, back[1] + ((0, 0),))),
                      ("steps", form, there, (1, ((1,), (2,)))), ("steps", form, (0, ()), (0, ()))]:
            self.refused("shape", 0, self.TABLE, thing)
        self.refused("shape", 0, (3, ()), ("steps", (2, ()), (0, ()), (0, ())))
        self.refused("shape", 0, (3, ()), ("steps", (3, ()), (0, ()), (1, ())))
        self.refused("shape", 0, (3, ()), ("steps", (3, ()), (0, ((),)), (0, ())))

    def test_form_alone(self):
        # There and back are right: only the form is not in STEPS, from the told row on.
        for rows, k in [(((-1, 0), (0, 1)), 0), (((1, 0), (0, -1)), 1), (((0, 1), (1, 0)), 1), (((0, 0), (1, 0)), 1),
                        (((1, 0), (0, 0), (0, 1)), 2), (((3, 2), (0, 2)), 1), (((3, -1), (0, 2)), 1),
                        (((3, 2), (0, 0), (0, 2), (5, 5)), 2), (((-1, 0), (-1, 0)), 0), (((1, 0), (2, 0)), 1),
                        (((5, 1), (0, 2), (0, 3)), 2)]:
            table, one = (2, rows), plain_unit(len(rows))
            self.refused("form", k, table, ("steps", table, one, one))

    def test_there_alone(self):
        one = plain_unit(3)
        form = (3, ((5, 0, 0), (0, 5, 0), (0, 0, 5)))
        for rows, k in [(((4, 0, 0), (0, 5, 0), (0, 0, 5)), 0), (((5, 0, 0), (0, 4, 0), (0, 0, 5)), 1),
                        (((5, 0, 0), (0, 5, 0), (0, 1, 5)), 2), (((5, 0, 0), (0, 4, 0), (0, 0, 4)), 1)]:
            self.refused("there", k, (3, rows), ("steps", form, one, one))
        self.refused("there", 0, (1, ((5,),)), ("steps", (1, ((5,),)), (1, ((-1,),)), (1, ((-1,),))))

    def test_back_alone(self):
        table = (2, ((5, 0), (0, 5), (0, 0)))
        for there, back, k in [(plain_unit(3), (3, ((1, 0, 0), (0, 1, 0), (0, 0, 2))), 2),
                               (plain_unit(3), (3, ((1, 0, 0), (0, 1, 1), (0, 0, 2))), 1),
                               (plain_unit(3), (3, ((1, 1, 0), (0, 1, 0), (0, 0, 1))), 0),
                               ((3, ((1, 0, 0), (0, 1, 0), (0, 0, 0))), plain_unit(3), 2),
                               ((3, ((1, 0, 0), (0, 1, 0), (0, 0, 2))), plain_unit(3), 2),
                               ((3, ((1, 0, 7), (0, 1, 0), (0, 0, 1))), plain_unit(3), 0),
                               ((3, ((1, 0, VERY_LONG), (0, 1, 0), (0, 0, 1))), plain_unit(3), 0)]:
            self.refused("back", k, table, ("steps", table, there, back))
        # The rows of a table on one line: there leads to the form, but has no back at all.
        self.refused("back", 1, (1, ((2,), (2,))), ("steps", (1, ((2,), (0,))), (2, ((1, 0), (0, 0))), plain_unit(2)))

    def test_of_two_faults_the_first_goes(self):
        form, there, back = self.PAPER[1:]
        wrong_form, wrong_back = (3, ((2, 0, -4), (0, -1, -2))), (2, ((1, 4), (2, 8)))
        wrong_there = (2, ((9, -4), (2, -1)))
        self.refused("form", 1, self.TABLE, ("steps", wrong_form, there, back))
        self.refused("form", 1, self.TABLE, ("steps", wrong_form, (2, ((0, 0), (0, 0))), wrong_back))
        self.refused("there", 1, self.TABLE, ("steps", form, wrong_there, wrong_back))
        self.refused("back", 0, self.TABLE, ("steps", form, there, wrong_back))
        self.refused("shape", 0, self.TABLE, ("steps", wrong_form, wrong_there, (1, ((1,),))))

    def test_whatever_is_let_by_is_so(self):
        dice = random.Random(27)
        for _ in range(400):
            many, wide = dice.randint(1, 2), dice.randint(1, 2)
            table = table_by(dice, many, wide, 1)
            form, there, back = table_by(dice, many, wide, 1), table_by(dice, many, many, 1), table_by(dice, many, many, 1)
            right = is_steps(form) and times(there, table) == form and times(there, back) == plain_unit(many)
            try:
                told = lets_steps(table, ("steps", form, there, back))
            except NoPaper:
                told = False
            self.assertSame(told, right)


if __name__ == "__main__":
    unittest.main()
