"""Promise 73, and 76 of PTABLES (and 2, 3 and 7 of them)."""

import random
import unittest

from stepforms.ptables import is_ptable, ptimes, pturned_over, punit
from tests.helper import (
    ODD_THINGS, VERY_LONG, Case, plain_ptimes, plain_punit, poly, ptable_by, ptables_by, pways_by, wrong_kinds)

ONE = poly(1)
X = poly(0, 1)
TABLES = [
    (0, ()), (0, ((),)), (0, ((), (), ())), (1, ()), (3, ()), (VERY_LONG, ()), (1, (((),),)), (1, ((ONE,),)), (2, ((ONE, ()),)),
    (2, (((), ()), ((), ()))), (2, ((X, poly(1, -2)), ((), ((5, 3),)))), (1, ((((VERY_LONG, 1), (1, VERY_LONG)),),)),
    (3, ((poly(0, 0, 0, 0, 0, 9), X, ONE),) * 7), (1, ((((0, 1),) * 40 + ((1, 1),),),)),
]
NO_TABLES = [
    # A FRACTION not in lowest terms, or none.
    (1, ((((2, 4),),),)), (1, ((((0, 2), (1, 1)),),)), (1, ((((1, 0),),),)), (1, ((((1, -1),),),)), (1, ((((-2, -1),),),)),
    (1, ((((1,),),),)), (1, ((((1, 1, 1),),),)), (1, (((1, 1),),)), (1, (((1,),),)), (1, ((((VERY_LONG, VERY_LONG),),),)),
    # (0, 1) last.
    (1, ((((0, 1),),),)), (1, ((((1, 1), (0, 1)),),)), (2, ((ONE, ((1, 1), (0, 1))),)), (2, ((ONE, ONE), (ONE, ((0, 1),)))),
    # A row too long or too short, or none.
    (1, ((ONE, ONE),)), (2, ((ONE,),)), (2, ((ONE, ONE), (ONE,))), (2, ((ONE, ONE), (ONE, ONE, ()))), (0, ((ONE,),)), (1, ((),)),
    (1, (ONE,)), (1, ((1,),)), (2, ((1, 0), (0, 1))), (1, ((None,),)), (1, (("",),)), (VERY_LONG, ((),)),
    # Kinds.
    [1, ((ONE,),)], (1, [(ONE,)]), (1, ([ONE],)), (1, (([(1, 1)],),)), (1, ((([1, 1],),),)), (1, ((((True, 1),),),)),
    (1, ((((1, True),),),)), (True, ((ONE,),)), (False, ()), (-1, ()), ("1", ((ONE,),)), (None, ()), (1, None), (1, "a"),
    (1, ((ONE,),), ()), (1,), ((ONE,),), (1, ((ONE,), None)), (1, (([],),)), (1, [[]]), (1, ((ONE,), [ONE])),
]


class Looked(Case):
    def test_ptables(self):
        for thing in TABLES + ptables_by(73, 60):
            self.assertTold(True, is_ptable, thing)

    def test_no_ptables(self):
        for thing in NO_TABLES + ODD_THINGS:
            self.assertTold(False, is_ptable, thing)

    def test_wrong_kinds(self):
        for table in [(2, ((ONE, X), ((), ONE))), (1, ((ONE,),)), (3, ((poly(1, 1, 1), (), ONE),))]:
            for thing in wrong_kinds(table):
                self.assertTold(False, is_ptable, thing)


class Units(Case):
    def test_units(self):
        self.assertTold((0, ()), punit, 0)
        self.assertTold((1, ((((1, 1),),),)), punit, 1)
        self.assertTold((2, ((((1, 1),), ()), ((), ((1, 1),)))), punit, 2)
        for n in (3, 4, 9, 60):
            self.assertTold(plain_punit(n), punit, n)


class Products(Case):
    def test_known_ones(self):
        one = (2, ((X, poly(1, 1)), ((), poly(3))))
        other = (2, ((poly(1), poly(0, 0, 1)), (X, poly(-1))))
        self.assertTold((2, ((poly(0, 2, 1), poly(-1, -1, 0, 1)), (poly(0, 3), poly(-3)))), ptimes, one, other)
        half = (1, ((((1, 2), (1, 3)),),))
        self.assertTold((1, ((((1, 4), (1, 3), (1, 9)),),)), ptimes, half, half)
        self.assertTold((1, (((),),)), ptimes, (2, ((X, X),)), (1, ((ONE,), (poly(-1),))))

    def test_without_rows(self):
        for wide in (0, 1, 3):
            self.assertTold((wide, ()), ptimes, (2, ()), (wide, (((),) * wide,) * 2))
            self.assertTold((wide, ()), ptimes, (0, ()), (wide, ()))
            self.assertTold((wide, (((),) * wide,) * 2), ptimes, (0, ((), ())), (wide, ()))
        self.assertTold((0, ((), ())), ptimes, (1, ((ONE,), (X,))), (0, ((),)))

    def test_nought_rows(self):
        nought = (3, (((), (), ()), ((), (), ())))
        for table in ptables_by(74, 30):
            if len(table[1]) == 3:
                self.assertTold((table[0], (((),) * table[0],) * 2), ptimes, nought, table)
        self.assertTold(nought, ptimes, (2, ((X, ONE), (ONE, poly(5)))), nought)

    def test_any_ones(self):
        dice = random.Random(75)
        for _ in range(120):
            many, middle, wide = dice.randint(0, 3), dice.randint(1, 3), dice.randint(1, 3)
            one, other = ptable_by(dice, many, middle), ptable_by(dice, middle, wide)
            self.assertTold(plain_ptimes(one, other), ptimes, one, other)

    def test_units_turn_nothing(self):
        for table in ptables_by(76, 40) + [(0, ()), (0, ((), ())), (2, ())]:
            self.assertTold(table, ptimes, punit(len(table[1])), table)
            self.assertTold(table, ptimes, table, punit(table[0]))

    def test_brackets(self):
        dice = random.Random(77)
        for _ in range(30):
            one, other, third = ptable_by(dice, 2, 3), ptable_by(dice, 3, 2), ptable_by(dice, 2, 1)
            self.assertSame(ptimes(ptimes(one, other), third), ptimes(one, ptimes(other, third)))

    def test_backs_on_either_side(self):
        dice = random.Random(78)
        for many in (0, 1, 2, 3):
            there, back = pways_by(dice, many, 5)
            self.assertTold(punit(many), ptimes, there, back)
            self.assertTold(punit(many), ptimes, back, there)


class Turned(Case):
    def test_known_ones(self):
        self.assertTold((2, ((ONE, ()), (X, poly(5)), ((), poly(7)))), pturned_over, (3, ((ONE, X, ()), ((), poly(5), poly(7)))))
        self.assertTold((1, ((X,),)), pturned_over, (1, ((X,),)))

    def test_without_rows(self):
        self.assertTold((0, ((), (), ())), pturned_over, (3, ()))
        self.assertTold((3, ()), pturned_over, (0, ((), (), ())))
        self.assertTold((0, ()), pturned_over, (0, ()))

    def test_there_and_back(self):
        for table in ptables_by(79, 60) + [(0, ()), (3, ()), (0, ((),))]:
            turned = pturned_over(table)
            self.assertSame((len(turned[1]), turned[0]), (table[0], len(table[1])))
            self.assertTold(table, pturned_over, turned)

    def test_products(self):
        dice = random.Random(80)
        for _ in range(30):
            one, other = ptable_by(dice, 2, 3), ptable_by(dice, 3, 1)
            self.assertSame(pturned_over(ptimes(one, other)), ptimes(pturned_over(other), pturned_over(one)))


if __name__ == "__main__":
    unittest.main()
