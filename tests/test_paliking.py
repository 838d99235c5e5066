"""Promise 83 (and 2, 5 and 7 of it)."""

import random
import unittest

from stepforms.palikechecker import lets_palike
from stepforms.paliking import palike_paper
from stepforms.pdeeds import pdone
from stepforms.pstepping import psteps_of
from tests.helper import Case, pdeeds_by, plain_ptimes, poly, poly_by, ptable_by, ptables_by

ONE = poly(1)
X = poly(0, 1)


def in_use(table):
    return [row for row in psteps_of(table)[1] if any(thing != () for thing in row)]


class Told(Case):
    def told(self, one, other):
        """The word that is told of the two, either way about, looked at."""
        paper = palike_paper(one, other)
        self.assertTold(True, lets_palike, one, other, paper)
        again = palike_paper(other, one)
        self.assertTold(True, lets_palike, other, one, again)
        self.assertSame(again[0], paper[0])
        self.assertSame(paper[0], "palike" if in_use(one) == in_use(other) else "punlike")
        if paper[0] == "palike":
            self.assertSame(plain_ptimes(paper[1], one), other)
            self.assertSame(plain_ptimes(paper[2], other), one)
        return paper[0]


class Papers(Told):
    def test_known_ones(self):
        for one, other, word in [
                ((1, ((X,),)), (1, ((X,),)), "palike"), ((1, ((X,),)), (1, ((poly(0, 5),),)), "palike"),
                ((1, ((X,),)), (1, ((ONE,),)), "punlike"), ((1, ((X,),)), (1, ((poly(0, 0, 1),), (X,))), "palike"),
                ((1, ((X,), (poly(1, 1),))), (1, ((ONE,),)), "palike"), ((1, ((X,),)), (1, ((poly(1, 1),),)), "punlike"),
                ((2, ((X, ONE), (ONE, X))), (2, ((ONE, X), (X, ONE))), "palike"), ((2, ((X, ONE),)), (2, ((ONE, X),)), "punlike"),
                ((2, ((X, ()), ((), X))), (2, ((X, X), ((), X), (X, ()))), "palike")]:
            self.assertSame(self.told(one, other), word)

    def test_of_no_rows_and_nought_rows(self):
        for wide in (0, 1, 2, 3):
            for many in (0, 1, 3):
                for others in (0, 2):
                    one, other = ((wide, (((),) * wide,) * count) for count in (many, others))
                    self.assertSame(self.told(one, other), "palike")
        for table in ptables_by(83, 30):
            wide, rows = table
            self.assertSame(self.told((wide, rows[:2]), (wide, (((),) * wide,) + rows[:2])), "palike")
            self.told((wide, ()), table)

    def test_of_tables_led_by_deeds(self):
        dice = random.Random(84)
        for table in ptables_by(84, 60):
            led = pdone(table, pdeeds_by(dice, len(table[1]), 4))
            self.assertSame(self.told(table, led), "palike")

    def test_of_tables_with_rows_more(self):
        dice = random.Random(85)
        for table in ptables_by(85, 40):
            wide, rows = table
            if 0 < len(rows) < 3:
                more = plain_ptimes((len(rows), (tuple(poly_by(dice, 1, 3) for _ in rows),)), table)[1]
                self.assertSame(self.told(table, (wide, rows + more)), "palike")

    def test_any_ones(self):
        dice = random.Random(86)
        met = set()
        for _ in range(120):
            wide = dice.randint(1, 3)
            one, other = ptable_by(dice, dice.randint(0, 3), wide), ptable_by(dice, dice.randint(0, 3), wide)
            met.add(self.told(one, other))
            met.add(self.told(one, one))
        self.assertEqual(met, {"palike", "punlike"})


if __name__ == "__main__":
    unittest.main()
