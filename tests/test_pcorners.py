"""Promise 75 (and 2 and 7 of it)."""

import random
import unittest

from stepforms.errors import NoBack
from stepforms.pcorners import pback_of, pcorner
from stepforms.pdeeds import pdone
from stepforms.ptables import ptimes, pturned_over, punit
from tests.helper import (
    VERY_LONG, Case, pdeeds_by, plain_pcorner, plain_product, plain_ptimes, plain_punit, poly, ptable_by, pways_by)

ONE = poly(1)
X = poly(0, 1)


def squares_by(seed, count):
    """SQUARE tables of POLYS of none to three rows, some with rows twice or NOUGHT rows."""
    dice = random.Random(seed)
    for _ in range(count):
        many = dice.randint(0, 3)
        wide, rows = ptable_by(dice, many, many)
        rows = list(rows)
        if many > 0 and dice.random() < 0.2:
            rows[0] = dice.choice([rows[-1], ((),) * many])
        yield (wide, tuple(rows))


class Corners(Case):
    def test_known_ones(self):
        for table, right in [
                ((0, ()), ONE), ((1, ((X,),)), X), ((1, (((),),)), ()), ((1, ((((-5, 3), (1, 2)),),)), ((-5, 3), (1, 2))),
                ((2, ((X, ONE), (ONE, X))), poly(-1, 0, 1)), ((2, ((ONE, X), (X, ONE))), poly(1, 0, -1)),
                ((2, (((), ONE), (ONE, ()))), poly(-1)), ((2, ((X, poly(2)), (poly(3), ()))), poly(-6)),
                ((3, ((ONE, poly(2), poly(3)), (poly(4), poly(5), poly(6)), (poly(7), poly(8), poly(10)))), poly(-3)),
                ((3, ((X, (), ()), ((), X, ()), ((), (), X))), poly(0, 0, 0, 1)),
                ((3, (((), (), X), ((), X, ()), (X, (), ()))), poly(0, 0, 0, -1)),
                ((3, (((), X, ()), ((), (), X), (X, (), ()))), poly(0, 0, 0, 1)),
                ((2, ((((1, 2),), ((1, 3),)), (((1, 4),), ((1, 5),)))), ((1, 60),)),
                ((1, ((((VERY_LONG, 1), (1, VERY_LONG)),),)), ((VERY_LONG, 1), (1, VERY_LONG)))]:
            self.assertTold(right, pcorner, table)

    def test_any_ones(self):
        for table in squares_by(75, 150):
            self.assertTold(plain_pcorner(table[1]), pcorner, table)

    def test_rows_twice_and_nought_rows(self):
        dice = random.Random(76)
        for many in (2, 3):
            for _ in range(10):
                rows = ptable_by(dice, many, many)[1]
                self.assertTold((), pcorner, (many, rows[:1] + rows[:1] + rows[2:]))
                self.assertTold((), pcorner, (many, rows[:-1] + (((),) * many,)))
                self.assertTold((), pcorner, (many, rows[1:] + rows[-1:]))
        self.assertTold((), pcorner, (3, (((), (), ()),) * 3))

    def test_of_a_product(self):
        dice = random.Random(77)
        for _ in range(40):
            many = dice.randint(0, 3)
            one, other = ptable_by(dice, many, many), ptable_by(dice, many, many)
            self.assertSame(pcorner(ptimes(one, other)), plain_product(pcorner(one), pcorner(other)))

    def test_turned_over_and_deeds(self):
        for table in squares_by(78, 40):
            corner = pcorner(table)
            self.assertSame(pcorner(pturned_over(table)), corner)
            if len(table[1]) > 1:
                self.assertSame(pcorner(pdone(table, (("swap", 0, 1),))), plain_product(corner, poly(-1)))
                self.assertSame(pcorner(pdone(table, (("add", 0, 1, X),))), corner)
                self.assertSame(pcorner(pdone(table, (("times", 1, (3, 2)),))), plain_product(corner, ((3, 2),)))

    def test_many_rows(self):
        for many in (4, 6, 25):
            self.assertTold(ONE, pcorner, punit(many))
        dice = random.Random(79)
        for many in (4, 5):
            table = (many, tuple(ptable_by(dice, 1, many)[1][0] for _ in range(many)))
            self.assertTold(plain_pcorner(table[1]), pcorner, table)


class Backs(Case):
    def back_is(self, table, back):
        self.assertTold(back, pback_of, table)
        self.assertSame(plain_ptimes(table, back), plain_punit(len(table[1])))
        self.assertSame(plain_ptimes(back, table), plain_punit(len(table[1])))

    def test_known_ones(self):
        self.back_is((0, ()), (0, ()))
        self.back_is((1, ((((-2, 3),),),)), (1, ((((-3, 2),),),)))
        self.back_is((2, ((ONE, X), ((), ONE))), (2, ((ONE, poly(0, -1)), ((), ONE))))
        self.back_is((2, (((), poly(2)), (ONE, X))), (2, ((((0, 1), (-1, 2)), ONE), (((1, 2),), ()))))
        self.back_is((2, ((poly(1, 1), X), (X, poly(-1, 1)))), (2, ((poly(1, -1), X), (X, poly(-1, -1)))))

    def test_either_way_about(self):
        dice = random.Random(80)
        for count in (0, 1, 3, 6):
            for many in (0, 1, 2, 3):
                for _ in range(5):
                    there, back = pways_by(dice, many, count, 2)
                    self.back_is(there, back)
                    self.back_is(back, there)
                    self.assertSame(len(pcorner(there)), 1)

    def test_of_many_rows(self):
        self.back_is(punit(12), punit(12))
        there, back = pways_by(random.Random(81), 5, 6)
        self.back_is(there, back)

    def test_refused(self):
        for table, corner in [
                ((1, ((X,),)), X), ((1, (((),),)), ()), ((1, ((poly(0, 0, 2),),)), poly(0, 0, 2)), ((2, ((X, ()), ((), ONE))), X),
                ((2, ((X, ONE), (ONE, X))), poly(-1, 0, 1)), ((2, ((X, X), (X, X))), ()), ((2, (((), ()), ((), ()))), ()),
                ((2, ((ONE, ONE), (ONE, ONE))), ()), ((3, (((), (), ()), (ONE, X, ()), (X, ONE, ()))), ())]:
            self.assertRefused(NoBack, {"corner": corner}, pback_of, table)

    def test_just_where_the_corner_has_degree_0(self):
        dice = random.Random(82)
        met = set()
        for table in list(squares_by(83, 150)) + [(2, ptable_by(dice, 2, 2)[1]) for _ in range(20)]:
            corner = plain_pcorner(table[1])
            met.add(min(len(corner), 2))
            if len(corner) == 1:
                self.back_is(table, pback_of(table))
            else:
                self.assertRefused(NoBack, {"corner": corner}, pback_of, table)
        self.assertEqual(met, {0, 1, 2})

    def test_of_tables_led_by_deeds(self):
        dice = random.Random(84)
        for many in (1, 2, 3):
            deeds = pdeeds_by(dice, many, 12)
            self.back_is(pdone(punit(many), deeds), pback_of(pdone(punit(many), deeds)))


if __name__ == "__main__":
    unittest.main()
