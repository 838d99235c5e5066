"""Promises 60 and 61 (and 2 and 7 of them)."""

import random
import unittest

from stepforms.deeds import deeds_table, led_back
from stepforms.equalchecker import lets_equal
from stepforms.errors import NoPaper
from stepforms.roundchecker import lets_rounds
from stepforms.rounding import rounds_paper
from tests.helper import (
    ODD_THINGS, VERY_LONG, Case, deeds_by, plain_downs, plain_times, plain_unit, table_by, tables_by, wrong_counts,
    wrong_kinds)

ONE = (2, ((1, 2), (3, 4)))
# The second row less three times the first, and the columns exchanged.
OTHER = (2, ((2, 1), (-2, 0)))
EQUAL = ("equal", (2, ((1, 0), (-3, 1))), (2, ((1, 0), (3, 1))), (2, ((0, 1), (1, 0))), (2, ((0, 1), (1, 0))))

UNIT = plain_unit(2)
APART = (2, ((1, 0), (0, 3)))
FIRST = ("rounds", (2, ((1, 0), (0, 2))), (2, ((1, 0), (3, -1))), (2, ((1, 0), (3, -1))), (2, ((1, -2), (0, 1))),
         (2, ((1, 2), (0, 1))))
SECOND = ("rounds", APART, UNIT, UNIT, UNIT, UNIT)
UNEQUAL = ("unequal", FIRST, SECOND)


def equal_by(dice, table):
    """A table equal to this one, and a right paper of it, by deeds of the dice."""
    many, wide = len(table[1]), table[0]
    rows, columns = deeds_by(dice, many, 5), deeds_by(dice, wide, 5)
    left, left_back = deeds_table(many, rows), deeds_table(many, led_back(rows))
    right, right_back = deeds_table(wide, columns), deeds_table(wide, led_back(columns))
    return plain_times(plain_times(left, table), right), ("equal", left, left_back, right, right_back)


class Letting(Case):
    def refused(self, word, number, one, other, thing):
        self.assertRefused(NoPaper, {"word": word, "number": number}, lets_equal, one, other, thing)


class EqualPapers(Letting):
    def changed(self, place, part):
        return EQUAL[:place] + (part,) + EQUAL[place + 1:]

    def test_right_papers(self):
        self.assertTold(True, lets_equal, ONE, OTHER, EQUAL)
        word, left, left_back, right, right_back = EQUAL
        self.assertTold(True, lets_equal, OTHER, ONE, (word, left_back, left, right_back, right))
        self.assertTold(True, lets_equal, ONE, ONE, ("equal", UNIT, UNIT, UNIT, UNIT))

    def test_others_than_the_told_ones(self):
        dice = random.Random(60)
        for table in tables_by(60, 200, 99):
            other, paper = equal_by(dice, table)
            self.assertTold(True, lets_equal, table, other, paper)
        nought = (2, ((0, 0), (0, 0)))
        for k in (0, 5, -VERY_LONG):
            left, back = (2, ((1, k), (0, 1))), (2, ((1, -k), (0, 1)))
            self.assertTold(True, lets_equal, nought, nought, ("equal", left, back, back, left))

    def test_tables_without_rows(self):
        for wide in (1, 2, 3):
            one = plain_unit(wide)
            self.assertTold(True, lets_equal, (wide, ()), (wide, ()), ("equal", (0, ()), (0, ()), one, one))
        turned = (1, ((-1,),))
        self.assertTold(True, lets_equal, (1, ()), (1, ()), ("equal", (0, ()), (0, ()), turned, turned))
        self.refused("right", 4, (1, ()), (1, ()), ("equal", (0, ()), (0, ()), turned, (1, ((1,),))))
        self.refused("shape", 0, (1, ()), (1, ()), ("equal", (0, ()), (0, ()), (0, ()), (0, ())))
        self.refused("shape", 0, (1, ()), (1, ()), ("equal", (1, ()), (0, ()), turned, turned))

    def test_left_alone(self):
        nought = (2, ((0, 0), (0, 0)))
        for left, back in [(UNIT, nought), (nought, UNIT), (UNIT, (2, ((1, 0), (0, 2)))), ((2, ((1, 0), (0, 2))), UNIT),
                           ((2, ((1, 1), (0, 1))), (2, ((1, 1), (0, 1)))), (UNIT, (2, ((1, VERY_LONG), (0, 1))))]:
            self.refused("left", 2, nought, nought, ("equal", left, back, UNIT, UNIT))
            self.refused("right", 4, nought, nought, ("equal", UNIT, UNIT, left, back))
        self.refused("left", 2, ONE, OTHER, self.changed(2, (2, ((1, 0), (-3, 1)))))

    def test_right_alone(self):
        self.refused("right", 4, ONE, OTHER, self.changed(4, UNIT))
        self.refused("right", 4, ONE, OTHER, self.changed(4, (2, ((0, 1), (-1, 0)))))

    def test_product_alone(self):
        self.refused("product", 1, ONE, ONE, EQUAL)
        self.refused("product", 1, OTHER, ONE, EQUAL)
        self.refused("product", 1, ONE, (2, ((2, 1), (-2, 1))), EQUAL)
        self.refused("product", 1, ONE, OTHER, ("equal", UNIT, UNIT, UNIT, UNIT))
        self.refused("product", 1, ONE, OTHER, EQUAL[:1] + EQUAL[3:] + EQUAL[1:3])

    def test_of_two_faults_the_first_goes(self):
        word, left, left_back, right, right_back = EQUAL
        wrong = (2, ((2, 0), (0, 2)))
        self.refused("left", 2, ONE, ONE, (word, left, wrong, right, wrong))
        self.refused("left", 2, ONE, ONE, (word, left, wrong, right, right_back))
        self.refused("right", 4, ONE, ONE, (word, left, left_back, right, wrong))
        self.refused("shape", 0, ONE, ONE, (word, left, wrong, right, None))

    def test_shape(self):
        for thing in ODD_THINGS + wrong_counts(EQUAL) + wrong_kinds(EQUAL) + [list(EQUAL), ("unequal",) + EQUAL[1:]]:
            self.refused("shape", 0, ONE, OTHER, thing)
        for word in ["", "Equal", "equals", "rounds", None, 1, ("equal",), ["equal"]]:
            self.refused("shape", 0, ONE, OTHER, self.changed(0, word))
        for place in range(1, 5):
            for part in [(2, ((1, 0),)), (2, ((1, 0), (0, 1), (0, 0))), (3, ((1, 0, 0), (0, 1, 0))), plain_unit(1), plain_unit(3),
                         (1, ((1,), (0,))), (0, ()), (2, ()), (2, ((1, 0), (0, True))), None, EQUAL]:
                self.refused("shape", 0, ONE, OTHER, self.changed(place, part))

    def test_shape_of_other_sizes(self):
        table, two, three = (3, ((1, 0, 0), (0, 1, 0))), plain_unit(2), plain_unit(3)
        self.assertTold(True, lets_equal, table, table, ("equal", two, two, three, three))
        for parts in [(three, three, two, two), (two, two, two, two), (three,) * 4, (two, three, three, three),
                      (two, two, three, two), (two, two, two, three)]:
            self.refused("shape", 0, table, table, ("equal",) + parts)


class UnequalPapers(Letting):
    def test_right_papers(self):
        self.assertTold(True, lets_rounds, ONE, FIRST)
        self.assertTold(True, lets_equal, ONE, APART, UNEQUAL)
        self.assertTold(True, lets_equal, APART, ONE, ("unequal", SECOND, FIRST))
        self.assertTold(True, lets_equal, ONE, APART, ("unequal", rounds_paper(ONE), rounds_paper(APART)))

    def test_first_alone(self):
        for first in ODD_THINGS + wrong_kinds(FIRST) + wrong_counts(FIRST) + [SECOND, UNEQUAL, EQUAL, list(FIRST)]:
            self.refused("first", 1, ONE, APART, ("unequal", first, SECOND))
        for place, part in [(1, (2, ((1, 0), (0, 4)))), (1, (2, ((1, 0), (0, -2)))), (3, UNIT), (5, UNIT), (2, UNIT)]:
            first = FIRST[:place] + (part,) + FIRST[place + 1:]
            self.refused("first", 1, ONE, APART, ("unequal", first, SECOND))

    def test_second_alone(self):
        for second in ODD_THINGS + wrong_kinds(SECOND) + wrong_counts(SECOND) + [FIRST, UNEQUAL, EQUAL, list(SECOND)]:
            self.refused("second", 2, ONE, APART, ("unequal", FIRST, second))

    def test_like_alone(self):
        self.refused("like", 0, ONE, ONE, ("unequal", FIRST, FIRST))
        self.refused("like", 0, ONE, OTHER, ("unequal", FIRST, rounds_paper(OTHER)))
        self.refused("like", 0, (2, ()), (2, ()), ("unequal", rounds_paper((2, ())), rounds_paper((2, ()))))
        nought = (2, ((0, 0), (0, 0)))
        paper = ("rounds", nought, UNIT, UNIT, UNIT, UNIT)
        other = ("rounds", nought, (2, ((1, 4), (0, 1))), (2, ((1, -4), (0, 1))), UNIT, UNIT)
        self.refused("like", 0, nought, nought, ("unequal", paper, other))

    def test_of_two_faults_the_first_goes(self):
        for odd in ODD_THINGS:
            self.refused("first", 1, ONE, APART, ("unequal", odd, odd))
            self.refused("first", 1, ONE, ONE, ("unequal", odd, FIRST))
            self.refused("second", 2, ONE, ONE, ("unequal", FIRST, odd))

    def test_shape(self):
        for thing in [list(UNEQUAL), UNEQUAL[:2], UNEQUAL + (0,), ("Unequal",) + UNEQUAL[1:], ("equal",) + UNEQUAL[1:],
                      ("unequal",), ("unequal", FIRST, SECOND, ()), (FIRST, "unequal", SECOND), FIRST, SECOND]:
            self.refused("shape", 0, ONE, APART, thing)


class LetBy(Case):
    def test_never_both(self):
        dice = random.Random(61)
        for table in tables_by(61, 150, 9):
            other, paper = equal_by(dice, table)
            self.assertTold(True, lets_equal, table, other, paper)
            with self.assertRaises(NoPaper) as caught:
                lets_equal(table, other, ("unequal", rounds_paper(table), rounds_paper(other)))
            self.assertSame((caught.exception.word, caught.exception.number), ("like", 0))

    def test_what_is_let_by_is_so(self):
        dice = random.Random(62)
        let = {"equal": 0, "unequal": 0}
        for _ in range(3000):
            many, wide = dice.choice([(1, 1), (1, 2), (2, 1)])
            one, other = table_by(dice, many, wide, 1), table_by(dice, many, wide, 1)
            parts = [table_by(dice, size, size, 1) for size in (many, many, wide, wide)]
            right = (plain_times(parts[0], parts[1]) == plain_unit(many) and plain_times(parts[2], parts[3]) == plain_unit(wide)
                     and plain_times(plain_times(parts[0], one), parts[2]) == other)
            unlike = plain_downs(one) != plain_downs(other)
            for thing, so in ((("equal", *parts), right), (("unequal", rounds_paper(one), rounds_paper(other)), unlike)):
                try:
                    told = lets_equal(one, other, thing)
                except NoPaper:
                    told = False
                self.assertSame(told, so)
                let[thing[0]] += told
            self.assertFalse(right and unlike)
        self.assertGreater(min(let.values()), 10)


if __name__ == "__main__":
    unittest.main()
