"""Promises 76 and 77 (and 2 and 7 of them)."""

import itertools
import random
import unittest

from stepforms.errors import NoPaper
from stepforms.pstepchecker import is_psteps, lets_psteps
from tests.helper import (
    ODD_THINGS, VERY_LONG, Case, plain_ptimes, plain_punit, poly, poly_by, pways_by, wrong_counts, wrong_kinds)

ONE = poly(1)
X = poly(0, 1)
XX = poly(0, 0, 1)
STEPS = [
    (0, ()), (0, ((), ())), (3, ()), (VERY_LONG, ()), (1, (((),),)), (1, ((ONE,),)), (1, ((X,),)), (1, ((X,), ((),))),
    (1, ((poly(VERY_LONG, 1),),)), (2, (((), ()), ((), ()))), (2, (((), X), ((), ()))), (2, ((X, poly(1, 2, 3, 4)),)),
    (2, ((ONE, poly(5)), ((), X))), (2, ((X, poly(7, -9)), ((), XX))), (2, ((ONE, ()), ((), ONE))), (2, ((XX, ()), ((), X))),
    (3, ((X, poly(0, 0, 0, 2), ()), ((), (), XX))), (3, ((X, poly(0, 3), poly(0, 1)), ((), XX, poly(4, 2)), ((), (), XX), ((), (), ()))),
    (3, (((), ONE, ()), ((), (), ONE), ((), (), ()), ((), (), ()))), (2, ((((-7, 2), (1, 1)), ((5, 3), (9, 1))), ((), XX))),
]
# Tables out of PSTEPS, with the least row with which they are.
NO_STEPS = [
    # NOUGHT rows ahead of others.
    ((1, (((),), (ONE,))), 1), ((2, (((), ()), ((), X))), 1), ((2, ((ONE, ()), ((), ()), ((), ONE))), 2),
    ((1, ((X,), ((),), ((),), (X,))), 3),
    # LEADS that don't rise.
    ((1, ((X,), (ONE,))), 1), ((2, (((), ONE), (ONE, ()))), 1), ((2, ((ONE, ()), (ONE, X))), 1), ((2, ((X, ()), ((), X), ((), ONE))), 2),
    ((3, (((), ONE, ()), ((), (), ONE), (ONE, (), ()))), 2),
    # A lead that isn't MONIC.
    ((1, ((poly(2),),)), 0), ((1, ((poly(0, -1),),)), 0), ((1, ((((1, 1), (1, 2)),),)), 0), ((2, ((X, ()), ((), poly(0, 3)))), 1),
    ((2, ((poly(1, 2), ()), ((), poly(0, 3)))), 0), ((1, ((poly(VERY_LONG),),)), 0), ((2, (((), poly(1, 1, -1)),)), 0),
    # A POLY above a lead of the same or a greater DEGREE.
    ((2, ((ONE, ONE), ((), ONE))), 1), ((2, ((ONE, poly(0, 5)), ((), X))), 1), ((2, ((ONE, XX), ((), X))), 1),
    ((2, ((ONE, poly(1, 1)), ((), ONE))), 1), ((3, ((ONE, (), X), ((), ONE, ()), ((), (), X))), 2),
    ((3, ((ONE, (), ()), ((), ONE, X), ((), (), X))), 2), ((3, ((ONE, X, ()), ((), X, XX), ((), (), X))), 1),
    ((3, ((ONE, (), poly(1, 1, 1, 1)), ((), ONE, ()), ((), (), XX), ((), (), ()))), 2),
]


def plain_steps(table):
    """Whether the table of POLYS is in PSTEPS, by the document's words."""
    leads = [next((at for at, thing in enumerate(row) if thing), None) for row in table[1]]
    kept = [lead for lead in leads if lead is not None]
    if leads != kept + [None] * (len(leads) - len(kept)) or kept != sorted(set(kept)):
        return False
    for at, lead in enumerate(kept):
        found = table[1][at][lead]
        if found[-1] != (1, 1) or any(len(row[lead]) >= len(found) for row in table[1][:at]):
            return False
    return True


class Looked(Case):
    def test_steps(self):
        for table in STEPS:
            self.assertTold(True, is_psteps, table)

    def test_no_steps(self):
        for table, _ in NO_STEPS:
            self.assertTold(False, is_psteps, table)
        for thing in ODD_THINGS:
            self.assertTold(False, is_psteps, thing)

    def test_no_ptables(self):
        for table in [(2, ((ONE, X), ((), XX))), (1, ((ONE,),)), (2, ((X, ()), ((), ()))), (1, ((((1, 2), (1, 1)),), ((),)))]:
            self.assertTold(True, is_psteps, table)
            for thing in wrong_kinds(table):
                self.assertTold(False, is_psteps, thing)
        for thing in [(1, ((((1, 1), (0, 1)),),)), (1, ((((2, 2),),),)), (2, ((ONE,),)), (1, ((ONE, ()),)), (2, ((1, 0), (0, 1))),
                      (True, ((ONE,),)), (-1, ()), (1, ((ONE,),), ()), (1, [(ONE,)]), (VERY_LONG, ((),)), (1, ((ONE,), ((0, 1),)))]:
            self.assertTold(False, is_psteps, thing)

    def test_all_small_ones(self):
        for parts in itertools.product([(), ONE, X, poly(2), poly(1, 1)], repeat=4):
            table = (2, (parts[:2], parts[2:]))
            self.assertSame(is_psteps(table), plain_steps(table))

    def test_any_ones(self):
        dice = random.Random(76)
        told = {True: 0, False: 0}
        for _ in range(4000):
            wide = dice.randint(1, 3)
            table = (wide, tuple(tuple(dice.choice([(), (), ONE, X, poly(3), XX, poly(2, 1)]) for _ in range(wide))
                                 for _ in range(dice.randint(0, 3))))
            self.assertSame(is_psteps(table), plain_steps(table))
            told[is_psteps(table)] += 1
        self.assertGreater(min(told.values()), 100)


def paper_by(dice, form):
    """A table with this form, and a right paper of it, by the dice."""
    there, back = pways_by(dice, len(form[1]))
    return plain_ptimes(back, form), ("psteps", form, there, back)


class Letting(Case):
    def refused(self, word, number, table, thing):
        self.assertRefused(NoPaper, {"word": word, "number": number}, lets_psteps, table, thing)

    TABLE = (2, ((XX, X), (poly(1, 1), ONE)))
    FORM = (2, ((ONE, ONE), ((), X)))
    # The first row less x - 1 times the second is (1, 1); the second less x + 1 times that is (0, -x).
    PAPER = ("psteps", FORM, (2, ((ONE, poly(1, -1)), (poly(1, 1), poly(0, 0, -1)))),
             (2, ((XX, poly(1, -1)), (poly(1, 1), poly(-1)))))

    def changed(self, place, part):
        return self.PAPER[:place] + (part,) + self.PAPER[place + 1:]


class Right(Letting):
    def test_right_papers(self):
        self.assertTold(True, lets_psteps, self.TABLE, self.PAPER)
        dice = random.Random(77)
        for form in STEPS:
            if form[0] < 50 and len(form[1]) < 4:
                for _ in range(6):
                    table, paper = paper_by(dice, form)
                    self.assertTold(True, lets_psteps, table, paper)

    def test_papers_are_not_one_alone(self):
        form = (1, ((X,), ((),)))
        for k in [(), ONE, poly(1, 2, 3), ((VERY_LONG, 1),), ((0, 1),) * 12 + ((-1, 7),)]:
            there, back = (2, ((ONE, k), ((), ONE))), (2, ((ONE, tuple((-top, bottom) for top, bottom in k)), ((), ONE)))
            self.assertTold(True, lets_psteps, form, ("psteps", form, there, back))
        scaled, back = (2, ((ONE, ()), (poly(0, 4), poly(5)))), (2, ((ONE, ()), (((0, 1), (-4, 5)), ((1, 5),))))
        self.refused("there", 1, form, ("psteps", form, scaled, back))
        nought = (1, (((),), ((),)))
        self.assertTold(True, lets_psteps, nought, ("psteps", nought, scaled, back))

    def test_tables_without_rows(self):
        for wide in (0, 1, 3, VERY_LONG):
            self.assertTold(True, lets_psteps, (wide, ()), ("psteps", (wide, ()), (0, ()), (0, ())))
            for paper in [("psteps", (wide + 1, ()), (0, ()), (0, ())), ("psteps", (wide, ()), (1, ()), (0, ())),
                          ("psteps", (wide, ()), (0, ()), (1, ())), ("psteps", (wide, ()), (0, ((),)), (0, ())),
                          ("psteps", (wide, ()), (1, ((ONE,),)), (1, ((ONE,),)))]:
                self.refused("shape", 0, (wide, ()), paper)


class Wrong(Letting):
    def test_form_alone(self):
        # All else is right: there leads the table to the form, but that is not in PSTEPS.
        for table, row in NO_STEPS:
            unit = plain_punit(len(table[1]))
            self.refused("form", row, table, ("psteps", table, unit, unit))

    def test_there_alone(self):
        unit = plain_punit(3)
        form = (2, ((ONE, ()), ((), X), ((), ())))
        for row in range(3):
            for wrong in [(ONE, ONE), ((), ()), (X, X)]:
                rows = form[1][:row] + (wrong,) + form[1][row + 1:]
                if rows != form[1]:
                    self.refused("there", row, (2, rows), ("psteps", form, unit, unit))
        self.refused("there", 0, (2, ((X, X), (X, X), (X, X))), ("psteps", form, unit, unit))
        self.refused("there", 1, (2, ((ONE, ()), (X, X), (X, X))), ("psteps", form, unit, unit))
        self.refused("there", 0, self.TABLE, self.changed(1, (2, ((ONE, ()), ((), X)))))
        self.refused("there", 1, self.TABLE, self.changed(1, (2, ((ONE, ONE), ((), poly(1, 1))))))
        self.refused("there", 0, self.TABLE, self.PAPER[:2] + self.PAPER[3:] + self.PAPER[2:3])

    def test_back_alone(self):
        nought = (1, (((),),) * 3)
        unit = plain_punit(3)
        for row in range(3):
            for column in range(3):
                for wrong in [X, poly(2), poly(-1), (), poly(1, 1), ONE]:
                    rows = [list(other) for other in unit[1]]
                    if rows[row][column] == wrong:
                        continue
                    rows[row][column] = wrong
                    other = (3, tuple(tuple(other) for other in rows))
                    self.refused("back", row, nought, ("psteps", nought, unit, other))
                    self.refused("back", row, nought, ("psteps", nought, other, unit))
        self.refused("back", 0, nought, ("psteps", nought, (3, (((),) * 3,) * 3), unit))
        # A scaled row has another back.
        self.refused("back", 1, nought, ("psteps", nought, unit, (3, unit[1][:1] + (((), poly(3), ()), ((), (), poly(3))))))
        self.refused("back", 0, self.TABLE, self.changed(3, self.PAPER[2]))

    def test_of_two_faults_the_first_goes(self):
        word, form, there, back = self.PAPER
        no_form, other_form, no_back = (2, ((ONE, ()), ((), poly(0, 2)))), (2, ((ONE, ()), ((), ONE))), (2, ((X, X), (X, X)))
        for thing, fault in [
                ((word, no_form, no_back, no_back), ("form", 1)), ((word, no_form, there, back), ("form", 1)),
                ((word, no_form, there, no_back), ("form", 1)), ((word, other_form, there, no_back), ("there", 0)),
                ((word, form, no_back, no_back), ("there", 0)), ((word, form, there, no_back), ("back", 0)),
                ((word, no_form, no_back, None), ("shape", 0)), (("psteps ", no_form, no_back, back), ("shape", 0))]:
            self.refused(*fault, self.TABLE, thing)
        # Of several rows the least one.
        self.refused("form", 0, self.TABLE, self.changed(1, (2, ((poly(2), ()), (ONE, ())))))
        self.refused("back", 0, self.TABLE, self.changed(3, (2, ((X, X), (X, X)))))
        # The first row of there times this is right, the second one is not.
        self.refused("back", 1, self.TABLE, self.changed(3, (2, ((poly(-1, 1, 1), poly(1, -1)), (poly(2, 1), poly(-1))))))

    def test_shape(self):
        for thing in ODD_THINGS + wrong_counts(self.PAPER) + wrong_kinds(self.PAPER) + [list(self.PAPER)]:
            self.refused("shape", 0, self.TABLE, thing)
        for word in ["", "Psteps", "steps", "prounds", None, 1, ("psteps",), ["psteps"]]:
            self.refused("shape", 0, self.TABLE, self.changed(0, word))
        for place in range(1, 4):
            for part in [(2, ((ONE, ()),)), (2, ((ONE, ()), ((), ONE), ((), ()))), (3, ((ONE, (), ()), ((), ONE, ()))), plain_punit(1),
                         plain_punit(3), (1, ((ONE,), ((),))), (0, ()), (2, ()), (2, ((ONE, ()), ((), ((True, 1),)))), None, self.PAPER,
                         (2, ((ONE, ()), ((), ((2, 2),)))), (2, ((ONE, ()), ((), ((1, 1), (0, 1))))), (2, ((1, 0), (0, 1)))]:
                self.refused("shape", 0, self.TABLE, self.changed(place, part))

    def test_shape_of_other_sizes(self):
        table, two, three = (3, ((ONE, (), ()), ((), ONE, ()))), plain_punit(2), plain_punit(3)
        self.assertTold(True, lets_psteps, table, ("psteps", table, two, two))
        for parts in [(table, three, three), (table, two, three), (table, three, two), (two, two, two), (three, two, two)]:
            self.refused("shape", 0, table, ("psteps",) + parts)


class LetBy(Case):
    def test_what_is_let_by_is_so(self):
        dice = random.Random(78)
        let = 0
        for _ in range(6000):
            many = dice.choice([1, 2])
            things = [(), ONE, X, poly(-1), ONE, ()]
            table, form = ((1, tuple((dice.choice(things),) for _ in range(many))) for _ in range(2))
            there, back = ((many, tuple(tuple(dice.choice(things) for _ in range(many)) for _ in range(many))) for _ in range(2))
            right = (plain_steps(form) and plain_ptimes(there, table) == form and plain_ptimes(there, back) == plain_punit(many))
            try:
                told = lets_psteps(table, ("psteps", form, there, back))
            except NoPaper:
                told = False
            self.assertSame(told, right)
            let += right
        self.assertGreater(let, 20)

    def test_two_papers_have_one_form(self):
        dice = random.Random(79)
        for form in STEPS:
            if form[0] < 50 and len(form[1]) < 4:
                table, paper = paper_by(dice, form)
                other = (form[0], tuple(tuple(poly_by(dice, 1, 3) for _ in row) for row in form[1]))
                if other != form:
                    with self.assertRaises(NoPaper):
                        lets_psteps(table, paper[:1] + (other,) + paper[2:])


if __name__ == "__main__":
    unittest.main()
