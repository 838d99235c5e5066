"""Promise 78 (and 2, 5 and 7 of it)."""

import random
import unittest
from fractions import Fraction

from stepforms.pdeeds import pdone
from stepforms.pstepchecker import is_psteps, lets_psteps
from stepforms.pstepping import psteps_of, psteps_paper
from stepforms.ptables import ptimes
from tests.helper import (
    Case, pdeeds_by, plain_ptimes, plain_punit, plain_shared, poly, ptable_by, ptables_by, pways_by)
from tests.test_pstepchecker import STEPS

ONE = poly(1)
X = poly(0, 1)


class Told(Case):
    def told(self, table):
        """What is told of the table, looked at by the document's words."""
        form = psteps_of(table)
        self.assertTold(form, psteps_of, table)
        self.assertSame(is_psteps(form), True)
        self.assertSame((form[0], len(form[1])), (table[0], len(table[1])))
        paper = psteps_paper(table)
        self.assertTold(True, lets_psteps, table, paper)
        self.assertSame(paper[1], form)
        word, _, there, back = paper
        self.assertSame(plain_ptimes(there, table), form)
        self.assertSame(plain_ptimes(back, form), table)
        self.assertSame(plain_ptimes(there, back), plain_punit(len(table[1])))
        return form


class Forms(Told):
    def test_known_ones(self):
        for table, form in [
                ((1, ((poly(3),),)), (1, ((ONE,),))), ((1, ((poly(2, 4),),)), (1, ((poly(Fraction(1, 2), 1),),))),
                ((1, ((poly(-1, 0, 1),), (poly(1, 1),))), (1, ((poly(1, 1),), ((),)))),
                ((1, ((X,), (poly(1, 1),))), (1, ((ONE,), ((),)))), ((2, ((X, ONE), (ONE, X))), (2, ((ONE, X), ((), poly(-1, 0, 1))))),
                ((2, ((poly(0, 0, 1), X), (poly(1, 1), ONE))), (2, ((ONE, ONE), ((), X)))),
                ((2, (((), ()), (X, poly(0, 2)))), (2, ((X, poly(0, 2)), ((), ())))),
                ((3, (((), X, ONE), ((), X, poly(2)), (X, X, X))), (3, ((X, (), ()), ((), X, ()), ((), (), ONE))))]:
            self.assertSame(self.told(table), form)

    def test_of_no_rows(self):
        for wide in (0, 1, 2, 3):
            self.assertSame(self.told((wide, ())), (wide, ()))
            self.assertTold(("psteps", (wide, ()), (0, ()), (0, ())), psteps_paper, (wide, ()))

    def test_of_nought_rows(self):
        for wide in (0, 1, 3):
            for many in (1, 2, 3):
                table = (wide, (((),) * wide,) * many)
                self.assertSame(self.told(table), table)
        for table in ptables_by(78, 30):
            wide, rows = table
            form = self.told((wide, (((),) * wide,) + rows[:2]))
            self.assertSame(form[1][:-1], self.told((wide, rows[:2]))[1])
            self.assertSame(form[1][-1], ((),) * wide)

    def test_of_one_column(self):
        dice = random.Random(79)
        for many in (1, 2, 3):
            for _ in range(30):
                table = ptable_by(dice, many, 1)
                self.assertSame(self.told(table), (1, ((plain_shared([row[0] for row in table[1]]),),) + (((),),) * (many - 1)))

    def test_of_rows_twice(self):
        for wide, rows in ptables_by(80, 40):
            if rows:
                form = self.told((wide, rows[:1] + rows[:1]))
                self.assertSame(form[1][1], ((),) * wide)
                self.assertSame(form[1][:1], self.told((wide, rows[:1]))[1])

    def test_of_a_form_itself(self):
        for form in STEPS:
            if form[0] < 50:
                self.assertSame(self.told(form), form)
        for table in ptables_by(81, 40):
            self.assertSame(psteps_of(psteps_of(table)), psteps_of(table))

    def test_any_ones(self):
        for table in ptables_by(82, 250):
            self.told(table)

    def test_great_ones(self):
        dice = random.Random(83)
        for many, wide in [(3, 3), (3, 2), (2, 3)]:
            for _ in range(8):
                degree, top, bottom = (1, 3, 1) if many == wide else (2, 9, 3)
                self.told((wide, tuple(tuple(poly(*[Fraction(dice.choice([-top, top - 1, 1 - top]), dice.randint(1, bottom))
                                                    for _ in range(degree + 1)]) for _ in range(wide)) for _ in range(many))))


class OneForm(Told):
    def test_whatever_deeds_led_the_table(self):
        dice = random.Random(84)
        for table in ptables_by(84, 60):
            for count in (1, 3, 6):
                led = pdone(table, pdeeds_by(dice, len(table[1]), count))
                self.assertSame(self.told(led), psteps_of(table))

    def test_behind_forty_deeds(self):
        dice = random.Random(85)
        for many, wide in [(1, 2), (2, 2), (2, 3), (3, 2), (3, 3)]:
            table = ptable_by(dice, many, wide)
            led = pdone(table, pdeeds_by(dice, many, 40))
            self.assertSame(psteps_of(led), psteps_of(table))
            self.assertTold(True, lets_psteps, led, psteps_paper(led))

    def test_whatever_table_with_a_back(self):
        dice = random.Random(86)
        for form in STEPS:
            if form[0] < 50:
                there, back = pways_by(dice, len(form[1]), 5)
                self.assertSame(self.told(plain_ptimes(back, form)), form)

    def test_another_paper_has_the_same_form(self):
        dice = random.Random(87)
        for table in ptables_by(87, 30):
            word, form, there, back = psteps_paper(table)
            more, less = pways_by(dice, len(table[1]), 3)
            led = ptimes(more, table)
            self.assertTold(True, lets_psteps, led, (word, form, ptimes(there, less), ptimes(more, back)))
            self.assertSame(psteps_paper(led)[1], form)


if __name__ == "__main__":
    unittest.main()
