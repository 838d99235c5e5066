"""Promise 10 (and 2 and 3 of fractions)."""

import random
import unittest
from fractions import Fraction

from stepforms.fractions import fraction_of, fraction_over, fraction_sum, fraction_times, is_fraction, row_parts
from tests.helper import ODD_THINGS, VERY_LONG, Case


def as_pair(number):
    return (number.numerator, number.denominator)


class Looks(Case):
    def test_fractions(self):
        for thing in [(0, 1), (1, 1), (-1, 1), (1, 2), (-3, 2), (4, 9), (VERY_LONG, 1), (-VERY_LONG, 1),
                      (1, VERY_LONG), (VERY_LONG, VERY_LONG + 1), (-VERY_LONG, VERY_LONG - 1)]:
            self.assertTold(True, is_fraction, thing)

    def test_not_in_lowest_terms(self):
        for thing in [(0, 2), (0, VERY_LONG), (2, 2), (2, 4), (-6, 9), (VERY_LONG, VERY_LONG),
                      (2 * (VERY_LONG // 4), 4)]:
            self.assertTold(False, is_fraction, thing)

    def test_bottoms_of_0_and_below(self):
        for thing in [(0, 0), (1, 0), (-1, 0), (0, -1), (1, -1), (1, -2), (-1, -2), (1, -VERY_LONG)]:
            self.assertTold(False, is_fraction, thing)

    def test_truths_are_no_numbers(self):
        for thing in [(True, 1), (1, True), (False, 1), (0, True), (True, True), (True, 2), (1, False)]:
            self.assertTold(False, is_fraction, thing)

    def test_wrong_kinds_and_counts(self):
        for thing in ODD_THINGS + [[1, 2], (1,), (1, 2, 3), ("1", 2), (1, "2"), (None, 1), (1, None), ((1,), 2),
                                   ((1, 2), (1, 2)), ([1], 2), (1, [2]), "1/2", "12"]:
            self.assertTold(False, is_fraction, thing)


class Reckoning(Case):
    def test_fraction_of(self):
        for top, bottom, right in [(0, 1, (0, 1)), (0, 5, (0, 1)), (0, -5, (0, 1)), (4, 2, (2, 1)), (4, -2, (-2, 1)),
                                   (-4, -6, (2, 3)), (-4, 6, (-2, 3)), (1, -1, (-1, 1)), (7, 7, (1, 1)),
                                   (10 ** 39, 10 ** 39 - 1, (10 ** 39, 10 ** 39 - 1)), (6 * 10 ** 38, -4, (-15 * 10 ** 37, 1))]:
            self.assertTold(right, fraction_of, top, bottom)

    def test_edges_of_sums_products_and_quotients(self):
        self.assertTold((0, 1), fraction_sum, (1, 2), (-1, 2))
        self.assertTold((1, 1), fraction_sum, (1, 2), (1, 2))
        self.assertTold((1, 2), fraction_sum, (1, 3), (1, 6))
        self.assertTold((0, 1), fraction_times, (0, 1), (5, 7))
        self.assertTold((1, 1), fraction_times, (2, 3), (3, 2))
        self.assertTold((-2, 1), fraction_over, (1, 1), (-1, 2))
        self.assertTold((1, 1), fraction_over, (-3, 7), (-3, 7))
        self.assertTold((0, 1), fraction_over, (0, 1), (-3, 7))
        self.assertTold((-1, 3), fraction_over, (2, 3), (-2, 1))

    def test_all_as_reckoned_elsewhere(self):
        dice = random.Random(10)
        for most in (3, 12, 10 ** 40 - 1):
            for _ in range(150):
                one, other = (Fraction(dice.randint(-most, most), dice.randint(1, most)) for _ in range(2))
                top, bottom = dice.randint(-most, most), dice.choice([-1, 1]) * dice.randint(1, most)
                self.assertTold(as_pair(Fraction(top, bottom)), fraction_of, top, bottom)
                self.assertTold(as_pair(one + other), fraction_sum, as_pair(one), as_pair(other))
                self.assertTold(as_pair(one * other), fraction_times, as_pair(one), as_pair(other))
                if other != 0:
                    self.assertTold(as_pair(one / other), fraction_over, as_pair(one), as_pair(other))
                for told in (fraction_sum(as_pair(one), as_pair(other)), fraction_of(top, bottom)):
                    self.assertTold(True, is_fraction, told)

    def test_what_was_told_goes_on(self):
        told = (3, 2)
        for _ in range(12):
            told = fraction_times(told, told)
        self.assertSame(told, (3 ** 4096, 2 ** 4096))
        self.assertTold((1, 1), fraction_over, told, told)


class Parts(Case):
    def test_none(self):
        self.assertTold((0, 1), row_parts, (), ())

    def test_rows_by_parts(self):
        self.assertTold((2, 1), row_parts, (1, 2, 3), ((1, 2), (0, 1), (1, 2)))
        self.assertTold((-5, 6), row_parts, (-1, 1), ((1, 2), (-1, 3)))
        self.assertTold((0, 1), row_parts, (0, 0), ((1, 2), (5, 3)))
        dice = random.Random(11)
        for size in range(9):
            row = tuple(dice.randint(-99, 99) for _ in range(size))
            parts = [Fraction(dice.randint(-9, 9), dice.randint(1, 9)) for _ in range(size)]
            right = sum((n * part for n, part in zip(row, parts)), Fraction(0))
            self.assertTold(as_pair(right), row_parts, row, tuple(as_pair(part) for part in parts))


if __name__ == "__main__":
    unittest.main()
