"""Promise 35 (and 33 of what short rows are)."""

import itertools
import random
import unittest

from stepforms.aliking import are_alike
from stepforms.deeds import done
from stepforms.shortchecker import lets_short
from stepforms.shorts import short_lengths, short_paper
from tests.helper import Case, deeds_by, table_by

KNOWN = [
    ((0, ((), ())), (0, 0)),
    ((1, ((0,), (0,))), (0, 0)),
    ((1, ((4,), (6,))), (0, 4)),
    ((1, ((-4,), (0,))), (0, 16)),
    ((2, ((0, 0), (3, 4))), (0, 25)),
    ((2, ((3, 4), (3, 4))), (0, 25)),
    ((2, ((3, 4), (-3, -4))), (0, 25)),
    ((2, ((6, 8), (9, 12))), (0, 25)),
    ((2, ((1, 0), (5, 2))), (1, 4)),
    ((2, ((5, 2), (1, 0))), (1, 4)),
    ((2, ((2, 0), (1, 2))), (4, 5)),
    ((2, ((89, 55), (55, 34))), (1, 1)),
    ((3, ((1, -1, 0), (0, 1, -1))), (2, 2)),
    ((4, ((99, 99, 99, 99), (99, 99, 99, 98))), (1, 29403)),
]


def length(row):
    return sum(number * number for number in row)


def tables(seed, count):
    dice = random.Random(seed)
    found = []
    for _ in range(count):
        wide, (a, b) = table_by(dice, 2, dice.randint(0, 4), dice.choice([1, 2, 9, 99]))
        if dice.random() < 0.2:
            times = dice.randint(-3, 3)
            b = tuple(times * number for number in a)
        found.append((wide, (a, b)))
    return found


class Short(Case):
    def test_known_ones(self):
        for table, lengths in KNOWN:
            self.assertTold(lengths, short_lengths, table)
            self.assertTold(True, lets_short, table, short_paper(table))

    def test_papers_are_let_by_and_have_the_told_lengths(self):
        for table in tables(35, 300):
            paper = short_paper(table)
            self.assertTold(True, lets_short, table, paper)
            self.assertTold(tuple(length(row) for row in paper[1][1]), short_lengths, table)
            self.assertTrue(are_alike(table, paper[1]))

    def test_the_same_for_tables_led_by_deeds(self):
        dice = random.Random(36)
        for table in tables(36, 200):
            led = done(table, deeds_by(dice, 2, 12))
            self.assertTold(short_lengths(table), short_lengths, led)
            self.assertTold(True, lets_short, led, short_paper(led))

    def test_rows_on_one_line(self):
        for table in tables(37, 300):
            a, b = table[1]
            on_one_line = length(a) * length(b) == sum(x * y for x, y in zip(a, b)) ** 2
            first, second = short_paper(table)[1][1]
            self.assertEqual(not any(first), on_one_line)
            self.assertEqual(not any(second), not any(a) and not any(b))

    def test_no_point_is_shorter(self):
        for table in tables(38, 80):
            wide, (a, b) = short_paper(table)[1]
            for j, k in itertools.product(range(-4, 5), range(-4, 5)):
                point = tuple(j * x + k * y for x, y in zip(a, b))
                if any(point):
                    self.assertGreaterEqual(length(point), length(a))
                if k != 0 and any(b):
                    self.assertGreaterEqual(length(point), length(b))


if __name__ == "__main__":
    unittest.main()
