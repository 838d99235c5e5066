"""Promises 70 to 72 (and 2 and 7 of them)."""

import random
import unittest
from fractions import Fraction

from stepforms.errors import NoBack
from stepforms.polys import is_poly, poly_over, poly_scaled, poly_shared, poly_sum, poly_times, poly_value
from tests.helper import ODD_THINGS, VERY_LONG, Case, plain, plain_product, plain_sum, poly, wrong_kinds

ONE = ((1, 1),)
X = ((0, 1), (1, 1))
POLYS = [(), ONE, X, ((5, 3),), ((-1, 2), (0, 1), (7, 1)), ((0, 1), (0, 1), (-1, 9999)), ((VERY_LONG, 1), (1, VERY_LONG)),
         ((0, 1),) * 40 + ((1, 1),)]


def polys_by(seed, count, degree=7, top=9999, bottom=9999):
    """POLYS of degrees to the told one, some with many noughts."""
    dice = random.Random(seed)
    found = []
    for _ in range(count):
        small = dice.random() < 0.5
        found.append(poly(*[Fraction(dice.randint(-5, 5) if small else dice.randint(-top, top), 1 if small else dice.randint(1, bottom))
                            * dice.choice([0, 1, 1]) for _ in range(dice.randint(0, degree + 1))]))
    return found


class Looked(Case):
    def test_polys(self):
        for thing in POLYS + polys_by(70, 50):
            self.assertTold(True, is_poly, thing)

    def test_no_polys(self):
        for thing in ODD_THINGS:
            if thing != () and not (type(thing) is tuple and thing == ((1, 2),)):
                self.assertTold(False, is_poly, thing)
        self.assertTold(True, is_poly, ((1, 2),))

    def test_a_last_nought(self):
        for thing in [((0, 1),), ((1, 1), (0, 1)), ((0, 1), (0, 1)), ((1, 2), (5, 3), (0, 1))]:
            self.assertTold(False, is_poly, thing)

    def test_no_fractions(self):
        for part in [(2, 4), (0, 2), (1, 0), (1, -1), (-1, -2), (1,), (1, 1, 1), (True, 1), (1, True), [1, 1], 1, None, "1", "1/2",
                     (VERY_LONG, VERY_LONG), (), ((1, 1),), (False, 1), (0, 0)]:
            for thing in [(part,), (part, (1, 1)), ((1, 1), part), ((1, 1), part, (1, 1))]:
                self.assertTold(False, is_poly, thing)

    def test_wrong_kinds(self):
        for right in [((1, 1),), ((0, 1), (1, 1)), ((1, 2), (0, 1), (1, 3))]:
            for thing in wrong_kinds(right) + [list(right), (right,), [right]]:
                self.assertTold(False, is_poly, thing)
        self.assertTold(False, is_poly, [])


class SumsAndProducts(Case):
    def test_known_ones(self):
        one, other = ((1, 2), (3, 1)), ((1, 2), (-3, 1))
        self.assertTold(((1, 1),), poly_sum, one, other)
        self.assertTold((), poly_sum, one, ((-1, 2), (-3, 1)))
        self.assertTold(((1, 2), (3, 1), (5, 1)), poly_sum, one, ((0, 1), (0, 1), (5, 1)))
        self.assertTold(((1, 4), (0, 1), (-9, 1)), poly_times, one, other)
        self.assertTold(((0, 1), (1, 2), (3, 1)), poly_times, one, X)
        self.assertTold(((1, 6), (1, 1)), poly_scaled, one, (1, 3))
        self.assertTold(((-1, 2), (-3, 1)), poly_scaled, one, (-1, 1))

    def test_with_nought(self):
        for thing in POLYS:
            self.assertTold(thing, poly_sum, thing, ())
            self.assertTold(thing, poly_sum, (), thing)
            self.assertTold((), poly_times, thing, ())
            self.assertTold((), poly_times, (), thing)
            self.assertTold((), poly_scaled, thing, (0, 1))
            self.assertTold(thing, poly_scaled, thing, (1, 1))
            self.assertTold(thing, poly_times, thing, ONE)
            self.assertTold((), poly_sum, thing, poly_scaled(thing, (-1, 1)))

    def test_tops_fall_away(self):
        one = ((1, 1), (2, 3), (5, 1), (-7, 2))
        for other, right in [(((0, 1), (0, 1), (0, 1), (7, 2)), one[:3]), (((0, 1), (0, 1), (-5, 1), (7, 2)), one[:2]),
                             (((0, 1), (-2, 3), (-5, 1), (7, 2)), one[:1]), (((-1, 1), (-2, 3), (-5, 1), (7, 2)), ()),
                             (((-1, 1), (0, 1), (-5, 1), (7, 2)), ((0, 1), (2, 3)))]:
            self.assertTold(right, poly_sum, one, other)
            self.assertTold(right, poly_sum, other, one)

    def test_any_ones(self):
        for one, other in zip(polys_by(71, 200), polys_by(72, 200)):
            self.assertTold(plain_sum(one, other), poly_sum, one, other)
            self.assertTold(plain_product(one, other), poly_times, one, other)
            self.assertTold(True, is_poly, poly_sum(one, other))
            self.assertTold(True, is_poly, poly_times(one, other))

    def test_scaled(self):
        for one in polys_by(73, 100):
            for part in [(0, 1), (1, 1), (-1, 1), (9999, 9998), (-1, 7)]:
                self.assertTold(plain_product(one, poly(Fraction(*part))), poly_scaled, one, part)


class Values(Case):
    def test_known_ones(self):
        for thing, part, right in [((), (5, 3), (0, 1)), ((), (0, 1), (0, 1)), (ONE, (0, 1), (1, 1)), (X, (-7, 9), (-7, 9)),
                                   (((3, 2), (5, 1)), (0, 1), (3, 2)), (((1, 1), (2, 1), (3, 1)), (1, 2), (11, 4)),
                                   (((-1, 4), (0, 1), (1, 1)), (1, 2), (0, 1)), (((1, 1), (1, 1)), (-1, 1), (0, 1))]:
            self.assertTold(right, poly_value, thing, part)

    def test_any_ones(self):
        for thing in polys_by(74, 100):
            for at in (Fraction(0), Fraction(1), Fraction(-3, 7), Fraction(9999, 2)):
                right = sum((part * at ** power for power, part in enumerate(plain(thing))), Fraction(0))
                self.assertTold((right.numerator, right.denominator), poly_value, thing, (at.numerator, at.denominator))


class Divided(Case):
    def looked_at(self, one, other):
        told = poly_over(one, other)
        self.assertTold(told, poly_over, one, other)
        self.assertIs(type(told), tuple)
        quotient, rest = told
        self.assertTrue(is_poly(quotient) and is_poly(rest))
        self.assertLess(len(rest), len(other))
        self.assertSame(plain_sum(plain_product(quotient, other), rest), one)

    def test_known_ones(self):
        for one, other, quotient, rest in [
                ((), ONE, (), ()), (X, ONE, X, ()), (ONE, X, (), ONE), (X, X, ONE, ()), (((5, 3),), ((2, 7),), ((35, 6),), ()),
                (poly(-1, 0, 1), poly(1, 1), poly(-1, 1), ()), (poly(1, 0, 1), poly(1, 1), poly(-1, 1), poly(2)),
                (poly(1, 2, 3, 4), poly(0, 0, 2), poly(Fraction(3, 2), 2), poly(1, 2)), (poly(7), poly(1, 1), (), poly(7)),
                (poly(0, 0, 0, 0, 0, 1), poly(0, 0, 3), poly(0, 0, 0, Fraction(1, 3)), ())]:
            self.assertTold((quotient, rest), poly_over, one, other)
            self.looked_at(one, other)

    def test_any_ones(self):
        for one, other in zip(polys_by(75, 300), polys_by(76, 300)):
            if other != ():
                self.looked_at(one, other)
                self.looked_at(plain_product(one, other), other)
                self.assertSame(poly_over(plain_product(one, other), other), (one, ()))

    def test_by_nought(self):
        for one in POLYS + polys_by(77, 20):
            self.assertRefused(NoBack, {"corner": ()}, poly_over, one, ())


class Shared(Case):
    def looked_at(self, one, other):
        told = poly_shared(one, other)
        self.assertIs(type(told), tuple)
        self.assertSame(len(told), 3)
        part, first, second = told
        self.assertTrue(all(is_poly(thing) for thing in told))
        self.assertSame(plain_sum(plain_product(one, first), plain_product(other, second)), part)
        if one == other == ():
            self.assertSame(part, ())
            return part
        self.assertSame(part[-1], (1, 1))
        for thing in (one, other):
            quotient, rest = poly_over(thing, part)
            self.assertSame(rest, ())
            self.assertSame(plain_product(quotient, part), thing)
        self.assertSame(poly_shared(one, other)[0], part)
        return part

    def test_known_ones(self):
        for one, other, part in [
                ((), (), ()), ((), ONE, ONE), (((5, 3),), (), ONE), ((), poly(2, 4), poly(Fraction(1, 2), 1)), (X, X, X), (X, ONE, ONE),
                (poly(-1, 0, 1), poly(1, 1), poly(1, 1)), (poly(-1, 0, 1), poly(1, 2, 1), poly(1, 1)), (poly(-1, 0, 1), poly(0, 1), ONE),
                (poly(6, 0, -6), poly(4, -8, 4), poly(-1, 1)), (poly(7), poly(-9), ONE), (poly(0, 0, 5), poly(0, 0, 0, 3), poly(0, 0, 1))]:
            self.assertSame(self.looked_at(one, other), part)
            self.assertSame(self.looked_at(other, one), part)

    def test_of_nought_and_another_one(self):
        for thing in polys_by(78, 40):
            right = poly(*[part / plain(thing)[-1] for part in plain(thing)])
            for part in (self.looked_at(thing, ()), self.looked_at((), thing), self.looked_at(thing, thing)):
                self.assertSame(part, right)

    def test_any_ones(self):
        for one, other in zip(polys_by(79, 60), polys_by(80, 60)):
            self.looked_at(one, other)

    def test_with_a_common_part(self):
        for one, other, common in zip(polys_by(81, 60, 3, 99, 9), polys_by(82, 60, 4, 99, 9), polys_by(83, 60, 3, 99, 9)):
            if common != () and (one != () or other != ()):
                part = self.looked_at(plain_product(one, common), plain_product(other, common))
                self.assertSame(poly_over(part, common)[1], ())
                self.assertSame(len(part), len(common) + len(poly_shared(one, other)[0]) - 1)

    def test_without_a_common_part(self):
        for one, other in [(poly(1, 1), poly(2, 1)), (poly(1, 0, 1), poly(-1, 0, 1)), (poly(1, 1, 1, 1, 1), poly(0, 0, 1)),
                           (poly(9999, 1), poly(Fraction(1, 9999), 1))]:
            self.assertSame(self.looked_at(one, other), ONE)


class ToldHere(Case):
    def test_what_was_told_may_be_handed_in(self):
        for one, other in zip(polys_by(84, 8), polys_by(85, 8)):
            part, first, second = poly_shared(one, other)
            self.assertTold(True, is_poly, poly_times(first, second))
            self.assertSame(plain_product(first, second), poly_times(first, second))
            if second != ():
                quotient, rest = poly_over(first, second)
                self.assertSame(plain_sum(plain_product(quotient, second), rest), first)


if __name__ == "__main__":
    unittest.main()
