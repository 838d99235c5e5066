"""Promises 80 and 81, of what is made (and 2, 5 and 7 of them)."""

import itertools
import random
import unittest
from fractions import Fraction

from stepforms.pdeeds import pdone
from stepforms.proundchecker import is_prounds, lets_prounds
from stepforms.prounding import prounds_of, prounds_paper
from stepforms.ptables import ptimes, pturned_over
from tests.helper import (
    Case, pdeeds_by, plain_pcorner, plain_product, plain_ptimes, plain_punit, plain_rest, plain_shared, poly, ptable_by,
    ptables_by, pways_by)
from tests.test_proundchecker import ROUNDS

ONE = poly(1)
X = poly(0, 1)


def downs(form):
    return [form[1][k][k] for k in range(min(form[0], len(form[1])))]


def corners(table, k):
    """The corners of each k rows and k columns."""
    return [plain_pcorner([tuple(row[c] for c in columns) for row in rows])
            for rows in itertools.combinations(table[1], k) for columns in itertools.combinations(range(table[0]), k)]


class Told(Case):
    def told(self, table):
        """What is told of the table, looked at by the document's words."""
        form = prounds_of(table)
        self.assertTold(form, prounds_of, table)
        self.assertSame(is_prounds(form), True)
        paper = prounds_paper(table)
        self.assertTold(True, lets_prounds, table, paper)
        self.assertSame(paper[1], form)
        word, _, left, left_back, right, right_back = paper
        self.assertSame(plain_ptimes(plain_ptimes(left, table), right), form)
        self.assertSame(plain_ptimes(left, left_back), plain_punit(len(table[1])))
        self.assertSame(plain_ptimes(right, right_back), plain_punit(table[0]))
        return form

    def shared(self, table):
        """The products of the first ones on the way down are what all corners share."""
        product = ONE
        for k, down in enumerate(downs(self.told(table)), 1):
            product = plain_product(product, down)
            found = corners(table, k)
            self.assertSame(product, plain_shared(found))
            if product == ():
                self.assertEqual(set(found), {()})
                continue
            self.assertSame(product[-1], (1, 1))
            for corner in found:
                self.assertSame(plain_rest(corner, product), ())


class Forms(Told):
    def test_known_ones(self):
        for table, right in [
                ((1, ((poly(3),),)), [ONE]), ((1, (((),),)), [()]), ((1, ((poly(2, 4),),)), [poly(Fraction(1, 2), 1)]),
                ((2, ((X, ()), ((), poly(1, 1)))), [ONE, poly(0, 1, 1)]), ((2, ((X, ()), ((), X))), [X, X]),
                ((2, (((), ()), ((), X))), [X, ()]), ((2, ((X, ONE), ((), X))), [ONE, poly(0, 0, 1)]),
                ((2, ((poly(0, 0, 1), ()), ((), X))), [X, poly(0, 0, 1)]), ((2, ((poly(0, 2), ()), ((), poly(0, 0, 3)))), [X, poly(0, 0, 1)]),
                ((3, ((X, (), ()), ((), X, ()), ((), (), ONE))), [ONE, X, X]), ((2, ((X, poly(1, 1)),)), [ONE]), ((1, ((X,), (poly(0, 0, 1),))), [X]),
                ((3, ((poly(0, 1, 1), (), ()), ((), poly(0, -1, 1), ()), ((), (), poly(-1, 0, 1)))), [ONE, poly(0, -1, 0, 1), poly(0, -1, 0, 1)])]:
            form = self.told(table)
            self.assertSame(downs(form), right)

    def test_of_no_rows(self):
        for wide in (0, 1, 2, 3):
            self.assertSame(self.told((wide, ())), (wide, ()))
            self.assertSame(prounds_paper((wide, ()))[2:4], ((0, ()), (0, ())))
        for many in (1, 3):
            self.assertSame(self.told((0, ((),) * many)), (0, ((),) * many))

    def test_of_nought_rows(self):
        for wide in (1, 2, 3):
            for many in (1, 2, 3):
                table = (wide, (((),) * wide,) * many)
                self.assertSame(self.told(table), table)
        for wide, rows in ptables_by(80, 30):
            form = self.told((wide, (((),) * wide,) + rows[:2]))
            self.assertSame(form[1][len(rows[:2]):], (((),) * wide,))
            self.assertSame(form[1][:len(rows[:2])], self.told((wide, rows[:2]))[1])

    def test_of_rows_twice(self):
        for wide, rows in ptables_by(81, 40):
            if rows:
                form = self.told((wide, rows[:1] + rows[:1]))
                self.assertSame(form, (wide, self.told((wide, rows[:1]))[1] + (((),) * wide,)))

    def test_of_a_form_itself(self):
        for form in ROUNDS:
            if form[0] < 50:
                self.assertSame(self.told(form), form)

    def test_of_a_form_led_away(self):
        dice = random.Random(82)
        for form in ROUNDS:
            if form[0] < 4 and len(form[1]) < 4:
                left, right = pways_by(dice, len(form[1]), 3)[0], pways_by(dice, form[0], 3)[0]
                self.assertSame(self.told(plain_ptimes(plain_ptimes(left, form), right)), form)

    def test_any_ones(self):
        for table in ptables_by(83, 200):
            self.told(table)


class Shared(Told):
    def test_by_corners(self):
        for table in ptables_by(84, 120):
            self.shared(table)

    def test_one_to_three_rows_and_wide(self):
        dice = random.Random(85)
        for many, wide in itertools.product((1, 2, 3), repeat=2):
            for _ in range(4):
                self.shared(ptable_by(dice, many, wide))

    def test_where_more_is_shared(self):
        dice = random.Random(86)
        for _ in range(25):
            many, wide = dice.randint(1, 3), dice.randint(1, 3)
            things = [X, poly(1, 1), poly(0, 1, 1), poly(0, 2), (), poly(0, 0, 1), poly(1, 2, 1), poly(-1, 0, 1)]
            self.shared((wide, tuple(tuple(dice.choice(things) for _ in range(wide)) for _ in range(many))))


class OneForm(Told):
    def test_whatever_deeds_led_rows_or_columns(self):
        dice = random.Random(87)
        for table in ptables_by(87, 60):
            form = prounds_of(table)
            by_rows = pdone(table, pdeeds_by(dice, len(table[1]), 3))
            by_columns = pturned_over(pdone(pturned_over(table), pdeeds_by(dice, table[0], 3)))
            by_both = pturned_over(pdone(pturned_over(by_rows), pdeeds_by(dice, table[0], 3)))
            for led in (by_rows, by_columns, by_both):
                self.assertSame(self.told(led), form)

    def test_behind_forty_deeds(self):
        dice = random.Random(88)
        for many, wide in [(1, 3), (2, 2), (2, 3), (3, 2), (3, 3)]:
            table = ptable_by(dice, many, wide)
            led = pdone(table, pdeeds_by(dice, many, 40, 1, 3, 1))
            led = pturned_over(pdone(pturned_over(led), pdeeds_by(dice, wide, 12)))
            self.assertSame(prounds_of(led), prounds_of(table))
            self.assertTold(True, lets_prounds, led, prounds_paper(led))

    def test_turned_over(self):
        for table in ptables_by(89, 60):
            self.assertSame(prounds_of(pturned_over(table)), pturned_over(prounds_of(table)))
            word, form, left, left_back, right, right_back = prounds_paper(table)
            turned = tuple(pturned_over(part) for part in (form, right, right_back, left, left_back))
            self.assertTold(True, lets_prounds, pturned_over(table), (word,) + turned)

    def test_another_paper_has_the_same_form(self):
        dice = random.Random(90)
        for table in ptables_by(90, 30):
            word, form, left, left_back, right, right_back = prounds_paper(table)
            more, less = pways_by(dice, len(table[1]), 3)
            led = ptimes(more, table)
            self.assertTold(True, lets_prounds, led, (word, form, ptimes(left, less), ptimes(more, left_back), right, right_back))
            self.assertSame(prounds_paper(led)[1], form)


if __name__ == "__main__":
    unittest.main()
