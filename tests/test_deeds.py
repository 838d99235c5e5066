"""Promises 13, 14 and 15 (and 2 of deeds)."""

import random
import unittest

from stepforms.deeds import deeds_table, done, led_back
from stepforms.errors import NoDeed
from stepforms.tables import times
from tests.helper import ODD_THINGS, VERY_LONG, Case, deeds_by, plain_unit, table_by

TABLE = (2, ((1, 2), (3, 4), (5, 6)))

# No DEED for three rows, any of them.
NO_DEEDS = ODD_THINGS + [
    ["swap", 0, 1], ("swap",), ("swap", 0), ("swap", 0, 1, 2), ("swap", 0, 0), ("swap", 0, 3), ("swap", 3, 0),
    ("swap", -1, 0), ("swap", 0, -1), ("swap", 0, True), ("swap", True, 0), ("swap", False, 1), ("swap", "0", 1),
    ("swap", 0, None), ("swap", 0, (1,)), ("swap", VERY_LONG, 0), ("Swap", 0, 1), (" swap", 0, 1), (["swap"], 0, 1),
    (("swap",), 0, 1), (True, 0, 1), (None, 0), ("turn",), ("turn", 3), ("turn", -1), ("turn", True), ("turn", False),
    ("turn", None), ("turn", 0, 1), ("turn", [0]), ["turn", 0], ("add", 0, 1), ("add", 0, 1, 2, 3), ("add", 0, 0, 1),
    ("add", 0, 3, 1), ("add", 3, 0, 1), ("add", -1, 0, 1), ("add", 0, -1, 1), ("add", 0, 1, True), ("add", 0, 1, False),
    ("add", 0, 1, None), ("add", 0, 1, "2"), ("add", 0, 1, (2,)), ("add", True, 0, 2), ("add", 0, True, 2),
    ("add", 2, False, 2), ("other", 0, 1), ("", 0), (0, "turn"), ("addswap", 0, 1, 2),
]

RIGHT_DEEDS = [("swap", 0, 1), ("swap", 2, 0), ("turn", 0), ("turn", 2), ("add", 0, 1, 0), ("add", 2, 0, -5),
               ("add", 1, 2, VERY_LONG), ("add", 1, 0, -VERY_LONG)]


class Doing(Case):
    def test_each_sort(self):
        self.assertTold((2, ((3, 4), (1, 2), (5, 6))), done, TABLE, (("swap", 0, 1),))
        self.assertTold((2, ((5, 6), (3, 4), (1, 2))), done, TABLE, (("swap", 2, 0),))
        self.assertTold((2, ((1, 2), (-3, -4), (5, 6))), done, TABLE, (("turn", 1),))
        self.assertTold((2, ((1, 2), (3, 4), (8, 12))), done, TABLE, (("add", 2, 0, 3),))
        self.assertTold((2, ((-4, -4), (3, 4), (5, 6))), done, TABLE, (("add", 0, 2, -1),))

    def test_none(self):
        self.assertTold(TABLE, done, TABLE, ())
        self.assertTold((3, ()), done, (3, ()), ())
        self.assertTold((0, ((), ())), done, (0, ((), ())), (("swap", 0, 1), ("turn", 0), ("add", 1, 0, 7)))

    def test_k_of_0_and_very_great(self):
        self.assertTold(TABLE, done, TABLE, (("add", 0, 1, 0),))
        self.assertTold((1, ((1 + 2 * VERY_LONG,), (2,))), done, (1, ((1,), (2,))), (("add", 0, 1, VERY_LONG),))
        self.assertTold((1, ((1,), (2 - VERY_LONG,))), done, (1, ((1,), (2,))), (("add", 1, 0, -VERY_LONG),))

    def test_one_behind_the_other(self):
        deeds = (("add", 0, 1, 2), ("swap", 0, 1), ("turn", 0))
        self.assertTold((2, ((-3, -4), (7, 10), (5, 6))), done, TABLE, deeds)


class Refusing(Case):
    def refused(self, number, many, thing):
        self.assertRefused(NoDeed, {"number": number}, deeds_table, many, thing)
        table = (2, ((7, 8),) * many)
        self.assertRefused(NoDeed, {"number": number}, done, table, thing)

    def test_no_tuple(self):
        for thing in [None, True, False, 0, 1, VERY_LONG, "", "swap", [], [("swap", 0, 1)], [1], ["turn", 0]]:
            self.refused(-1, 3, thing)
            self.refused(-1, 0, thing)

    def test_the_first_thing_that_is_no_deed(self):
        for thing in NO_DEEDS:
            self.refused(0, 3, (thing,))
            self.refused(2, 3, (("turn", 0), ("add", 0, 1, 2), thing, ("turn", 1)))
            self.refused(1, 3, (("swap", 0, 1), thing, thing))
            self.refused(8, 3, tuple(RIGHT_DEEDS) + (thing, None))

    def test_one_deed_alone_is_no_deeds(self):
        self.refused(0, 3, ("swap", 0, 1))
        self.refused(0, 3, ("turn", 0))

    def test_rows_that_are_not_there(self):
        self.refused(0, 0, (("turn", 0),))
        self.refused(0, 1, (("swap", 0, 1),))
        self.refused(1, 1, (("turn", 0), ("add", 0, 1, 2)))
        self.refused(0, 2, (("swap", 0, 2),))
        self.assertTold((2, ((7, 8),)), done, (2, ((-7, -8),)), (("turn", 0),))


class Tables(Case):
    def test_of_none(self):
        for many in range(9):
            self.assertTold(plain_unit(many), deeds_table, many, ())

    def test_of_each_sort(self):
        self.assertTold((2, ((0, 1), (1, 0))), deeds_table, 2, (("swap", 0, 1),))
        self.assertTold((2, ((1, 0), (0, -1))), deeds_table, 2, (("turn", 1),))
        self.assertTold((2, ((1, 5), (0, 1))), deeds_table, 2, (("add", 0, 1, 5),))

    def test_rules(self):
        dice = random.Random(15)
        for _ in range(150):
            many = dice.randint(0, 5)
            table = table_by(dice, many, dice.randint(0, 4), 99)
            first, then = deeds_by(dice, many, dice.randint(0, 12), 99), deeds_by(dice, many, dice.randint(0, 6), 99)
            self.assertSame(times(deeds_table(many, first), table), done(table, first))
            self.assertSame(done(table, first + then), done(done(table, first), then))
            self.assertSame(deeds_table(many, first + then), times(deeds_table(many, then), deeds_table(many, first)))
            back = led_back(first)
            self.assertSame(done(done(table, first), back), table)
            self.assertSame(done(done(table, back), first), table)
            self.assertSame(times(deeds_table(many, first), deeds_table(many, back)), plain_unit(many))
            self.assertSame(times(deeds_table(many, back), deeds_table(many, first)), plain_unit(many))


class LeadingBack(Case):
    def test_led_back(self):
        self.assertTold((), led_back, ())
        self.assertTold((("add", 0, 1, -3), ("turn", 2), ("swap", 1, 0)), led_back,
                        (("swap", 1, 0), ("turn", 2), ("add", 0, 1, 3)))
        self.assertTold((("add", 0, 1, 0),), led_back, (("add", 0, 1, 0),))
        self.assertTold((("add", 0, 1, VERY_LONG),), led_back, (("add", 0, 1, -VERY_LONG),))


if __name__ == "__main__":
    unittest.main()
