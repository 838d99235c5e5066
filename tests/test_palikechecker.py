"""Promise 82 (and 2 and 7 of it)."""

import random
import unittest

from stepforms.errors import NoPaper
from stepforms.palikechecker import lets_palike
from stepforms.pstepping import psteps_paper
from tests.helper import (
    ODD_THINGS, VERY_LONG, Case, plain_ptimes, plain_punit, poly, ptable_by, ptables_by, pways_by, wrong_counts, wrong_kinds)

ONE = poly(1)
X = poly(0, 1)
UNIT = plain_punit(2)
TABLE = (2, ((X, ONE), (ONE, X)))
# The first row less x times the second, and both, and a NOUGHT row: of more rows, but palike.
OTHER = (2, (((), poly(1, 0, -1)), (ONE, X), ((), ())))
PALIKE = ("palike", (2, ((ONE, poly(0, -1)), ((), ONE), ((), ()))), (3, ((ONE, X, poly(5)), ((), ONE, ()))))
# Just so wide, but another form.
APART = (2, ((X, ()), ((), ONE)))
FIRST = ("psteps", (2, ((ONE, X), ((), poly(-1, 0, 1)))), (2, (((), ONE), (poly(-1), X))), (2, ((X, poly(-1)), (ONE, ()))))
SECOND = ("psteps", APART, UNIT, UNIT)
PUNLIKE = ("punlike", FIRST, SECOND)


class Letting(Case):
    def refused(self, word, number, one, other, thing):
        self.assertRefused(NoPaper, {"word": word, "number": number}, lets_palike, one, other, thing)

    def changed(self, place, part):
        return PALIKE[:place] + (part,) + PALIKE[place + 1:]


class Palike(Letting):
    def test_right_papers(self):
        self.assertTold(True, lets_palike, TABLE, OTHER, PALIKE)
        self.assertTold(True, lets_palike, OTHER, TABLE, (PALIKE[0], PALIKE[2], PALIKE[1]))
        self.assertTold(True, lets_palike, TABLE, TABLE, ("palike", UNIT, UNIT))

    def test_others_than_the_told_ones(self):
        # What stands at a NOUGHT row may be any.
        for k in [(), ONE, poly(1, 2, 3), ((-VERY_LONG, 7),), ((0, 1),) * 9 + ((1, 1),)]:
            self.assertTold(True, lets_palike, TABLE, OTHER, self.changed(2, (3, ((ONE, X, k), ((), ONE, k)))))
        dice = random.Random(82)
        for table in ptables_by(82, 60):
            there, back = pways_by(dice, len(table[1]))
            self.assertTold(True, lets_palike, table, plain_ptimes(there, table), ("palike", there, back))

    def test_tables_of_no_rows(self):
        for wide in (0, 1, 3):
            none = (wide, ())
            self.assertTold(True, lets_palike, none, none, ("palike", (0, ()), (0, ())))
            nought = (wide, (((),) * wide,) * 2)
            paper = ("palike", (0, ((), ())), (2, ()))
            self.assertTold(True, lets_palike, none, nought, paper)
            self.assertTold(True, lets_palike, nought, none, ("palike", paper[2], paper[1]))
            self.refused("shape", 0, nought, none, paper)
            self.refused("shape", 0, none, none, paper)
        self.refused("over", 1, (1, ()), (1, (((),), (X,))), ("palike", (0, ((), ())), (2, ())))
        self.refused("again", 1, (1, (((),), (X,))), (1, ()), ("palike", (2, ()), (0, ((), ()))))

    def test_over_alone(self):
        for row in range(3):
            rows = list(PALIKE[1][1])
            for wrong in [(X, X), (ONE, ONE), (poly(2), ())]:
                rows[row] = wrong
                self.refused("over", row, TABLE, OTHER, self.changed(1, (2, tuple(rows))))
        self.refused("over", 0, TABLE, OTHER, self.changed(1, (2, ((X, X), (X, X), (X, X)))))
        self.refused("over", 2, TABLE, (2, OTHER[1][:2] + (((), ONE),)), PALIKE)

    def test_again_alone(self):
        for row in range(2):
            rows = list(PALIKE[2][1])
            for wrong in [(X, X, X), (ONE, ONE, ()), ((), (), ONE)]:
                rows[row] = wrong
                self.refused("again", row, TABLE, OTHER, self.changed(2, (3, tuple(rows))))
        self.refused("again", 0, TABLE, OTHER, self.changed(2, (3, ((X, X, X), (X, X, X)))))
        # The other one is made of the one, but not the one of it.
        self.refused("again", 0, (1, ((ONE,),)), (1, ((X,),)), ("palike", (1, ((X,),)), (1, ((ONE,),))))
        self.refused("again", 0, (1, ((ONE,),)), (1, ((X,),)), ("palike", (1, ((X,),)), (1, ((X,),))))

    def test_of_two_faults_the_first_goes(self):
        wrong_over, wrong_again = (2, ((X, X), (X, X), (X, X))), (3, ((X, X, X), (X, X, X)))
        self.refused("over", 0, TABLE, OTHER, ("palike", wrong_over, wrong_again))
        self.refused("shape", 0, TABLE, OTHER, ("palike", wrong_over, wrong_over))
        self.refused("shape", 0, TABLE, OTHER, ("palike", wrong_again, wrong_again))
        self.refused("shape", 0, TABLE, OTHER, ("palike", wrong_over, None))

    def test_shape(self):
        for thing in ODD_THINGS + wrong_counts(PALIKE) + wrong_kinds(PALIKE) + [list(PALIKE), FIRST, SECOND, (FIRST, SECOND)]:
            self.refused("shape", 0, TABLE, OTHER, thing)
        for word in ["", "Palike", "alike", "psteps", None, 1, ("palike",), ["palike"]]:
            self.refused("shape", 0, TABLE, OTHER, self.changed(0, word))
        for place in (1, 2):
            for part in [UNIT, plain_punit(3), plain_punit(1), (2, ()), (0, ()), (3, ((ONE, X, ()),)), None, PALIKE, (2, ((1, 0), (0, 1), (0, 0))),
                         (2, ((ONE, ()), ((), ONE), ((), ((2, 2),)))), (3, ((ONE, X, ()), ((), ONE, ((0, 1),)))),
                         (2, ((ONE, ()), ((), ONE), ((), ((True, 1),))))]:
                self.refused("shape", 0, TABLE, OTHER, self.changed(place, part))


class Punlike(Letting):
    def test_right_papers(self):
        self.assertTold(True, lets_palike, TABLE, APART, PUNLIKE)
        self.assertTold(True, lets_palike, APART, TABLE, ("punlike", SECOND, FIRST))
        self.assertTold(True, lets_palike, TABLE, APART, ("punlike", psteps_paper(TABLE), psteps_paper(APART)))
        none, one = (1, ()), (1, ((X,),))
        self.assertTold(True, lets_palike, none, one, ("punlike", psteps_paper(none), psteps_paper(one)))
        more = (2, APART[1] + (((), ()),))
        self.assertTold(True, lets_palike, TABLE, more, ("punlike", FIRST, psteps_paper(more)))

    def test_one_alone(self):
        for first in ODD_THINGS + wrong_kinds(FIRST) + wrong_counts(FIRST) + [SECOND, PUNLIKE, PALIKE, list(FIRST)]:
            self.refused("one", 0, TABLE, APART, ("punlike", first, SECOND))
        for place, part in [(1, APART), (1, (2, ((ONE, X), ((), poly(1, 0, -1))))), (2, UNIT), (3, UNIT)]:
            self.refused("one", 0, TABLE, APART, ("punlike", FIRST[:place] + (part,) + FIRST[place + 1:], SECOND))

    def test_other_alone(self):
        for second in ODD_THINGS + wrong_kinds(SECOND) + wrong_counts(SECOND) + [FIRST, PUNLIKE, PALIKE, list(SECOND)]:
            self.refused("other", 0, TABLE, APART, ("punlike", FIRST, second))

    def test_forms_alone(self):
        self.refused("forms", 0, TABLE, TABLE, ("punlike", FIRST, FIRST))
        self.refused("forms", 0, TABLE, TABLE, ("punlike", FIRST, psteps_paper(TABLE)))
        # But for NOUGHT rows.
        self.refused("forms", 0, TABLE, OTHER, ("punlike", FIRST, psteps_paper(OTHER)))
        self.refused("forms", 0, OTHER, TABLE, ("punlike", psteps_paper(OTHER), FIRST))
        for wide in (0, 1, 3):
            none, nought = (wide, ()), (wide, (((),) * wide,) * 2)
            self.refused("forms", 0, none, nought, ("punlike", psteps_paper(none), psteps_paper(nought)))
            self.refused("forms", 0, none, none, ("punlike", psteps_paper(none), psteps_paper(none)))

    def test_of_two_faults_the_first_goes(self):
        for odd in ODD_THINGS:
            self.refused("one", 0, TABLE, APART, ("punlike", odd, odd))
            self.refused("one", 0, TABLE, TABLE, ("punlike", odd, FIRST))
            self.refused("other", 0, TABLE, TABLE, ("punlike", FIRST, odd))

    def test_shape(self):
        for thing in [list(PUNLIKE), PUNLIKE[:2], PUNLIKE + (0,), ("Punlike",) + PUNLIKE[1:], ("palike",) + PUNLIKE[1:], ("punlike",),
                      ("punlike", FIRST, SECOND, ()), (FIRST, "punlike", SECOND), ("unlike",) + PUNLIKE[1:], ()]:
            self.refused("shape", 0, TABLE, APART, thing)


class LetBy(Case):
    def test_never_both(self):
        dice = random.Random(83)
        for table in ptables_by(83, 50):
            there, back = pways_by(dice, len(table[1]), 3)
            other = plain_ptimes(there, table)
            self.assertSame(lets_palike(table, other, ("palike", there, back)), True)
            self.assertRefused(NoPaper, {"word": "forms", "number": 0}, lets_palike, table, other,
                               ("punlike", psteps_paper(table), psteps_paper(other)))

    def test_what_is_let_by_is_so(self):
        dice = random.Random(84)
        let = 0
        for _ in range(4000):
            many, others = dice.choice([(1, 1), (1, 2), (2, 1)])
            things = [(), ONE, X, poly(-1)]
            one, other, over, again = ((w, tuple(tuple(dice.choice(things) for _ in range(w)) for _ in range(m)))
                                       for m, w in [(many, 1), (others, 1), (others, many), (many, others)])
            right = plain_ptimes(over, one) == other and plain_ptimes(again, other) == one
            try:
                told = lets_palike(one, other, ("palike", over, again))
            except NoPaper:
                told = False
            self.assertSame(told, right)
            let += right
            if right:
                with self.assertRaises(NoPaper):
                    lets_palike(one, other, ("punlike", psteps_paper(one), psteps_paper(other)))
        self.assertGreater(let, 20)

    def test_of_any_tables(self):
        dice = random.Random(85)
        for _ in range(40):
            one, other = ptable_by(dice, 2, 2), ptable_by(dice, 2, 2)
            paper = ("punlike", psteps_paper(one), psteps_paper(other))
            if paper[1][1] != paper[2][1]:
                self.assertTold(True, lets_palike, one, other, paper)


if __name__ == "__main__":
    unittest.main()
