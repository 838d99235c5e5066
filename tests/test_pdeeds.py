"""Promise 74 (and 2 and 7 of it)."""

import random
import unittest
from fractions import Fraction

from stepforms.errors import NoDeed
from stepforms.pdeeds import pdeeds_table, pdone, pled_back
from stepforms.ptables import ptimes, punit
from tests.helper import (
    ODD_THINGS, VERY_LONG, Case, listed, pdeeds_by, plain_pdone, plain_punit, poly, ptable_by, ptables_by, wrong_kinds)

ONE = poly(1)
X = poly(0, 1)
TABLE = (2, ((ONE, X), ((), poly(2, 3)), (poly(5), poly(0, 0, 1))))
SWAP = ("swap", 0, 2)
TIMES = ("times", 1, (-1, 2))
ADD = ("add", 0, 1, poly(1, 0, 1))
RIGHT = [SWAP, TIMES, ADD, ("swap", 2, 1), ("times", 0, (1, 1)), ("times", 2, (VERY_LONG, 2)), ("add", 2, 0, ()),
         ("add", 1, 2, ((1, 3),)), ("add", 1, 0, ((0, 1), (0, 1), (-1, VERY_LONG)))]
# Things that are no deeds for three rows.
WRONG = [
    ("swap", 0, 0), ("swap", 2, 2), ("swap", 0, 3), ("swap", 3, 0), ("swap", -1, 0), ("swap", 0, -1), ("swap", 0, True),
    ("swap", False, 1), ("swap", 0), ("swap",), ("swap", 0, 1, 2), ("swap", 0, "1"), ("swap", 0, None), ("swap", 0, (1,)),
    ("swap", 0, VERY_LONG), ["swap", 0, 1], ("Swap", 0, 1), ("", 0, 1), (0, 1), ("turn", 0), ("turn", 0, (1, 1)), "swap 0 1",
    ("times", 0, (0, 1)), ("times", 3, (1, 1)), ("times", -1, (1, 1)), ("times", True, (1, 1)), ("times", 0), ("times", 0, 2),
    ("times", 0, ((1, 1),)), ("times", 0, (2, 2)), ("times", 0, (1, -1)), ("times", 0, (1, 0)), ("times", 0, (0, 2)),
    ("times", 0, [1, 1]), ("times", 0, (1, True)), ("times", 0, (True, 1)), ("times", 0, (1, 1), 0), ("times", 0, None),
    ("times", 0, ()), ("time", 0, (1, 1)), ("times", (1, 1), 0), ("times", 0, 1, (1, 1)),
    ("add", 0, 0, ONE), ("add", 1, 1, ()), ("add", 0, 3, ONE), ("add", 3, 0, ONE), ("add", -1, 0, ONE), ("add", True, 0, ONE),
    ("add", 0, True, ONE), ("add", 0, 1), ("add", 0, 1, ONE, ONE), ("add", 0, 1, 1), ("add", 0, 1, (1, 1)), ("add", 0, 1, None),
    ("add", 0, 1, poly(0, 0, 0, 1)), ("add", 0, 1, poly(1, 1, 1, 1)), ("add", 0, 1, ((1, 1), (0, 1))), ("add", 0, 1, ((0, 1),)),
    ("add", 0, 1, ((2, 4),)), ("add", 0, 1, [(1, 1)]), ("add", 0, 1, ([1, 1],)), ("add", 0, 1, ((1, True),)), ("add", 0, 1, []),
    ("ADD", 0, 1, ONE), ["add", 0, 1, ONE], ((("add",),), 0, 1, ONE), (["swap"], 0, 1), (None, 0, 1), (True, 0, 1),
]


class Done(Case):
    def refused(self, number, table, thing):
        self.assertRefused(NoDeed, {"number": number}, pdone, table, thing)

    def test_one_of_each_sort(self):
        self.assertTold(TABLE, pdone, TABLE, ())
        self.assertTold((2, (TABLE[1][2], TABLE[1][1], TABLE[1][0])), pdone, TABLE, (SWAP,))
        self.assertTold((2, (TABLE[1][0], ((), ((-1, 1), (-3, 2))), TABLE[1][2])), pdone, TABLE, (TIMES,))
        self.assertTold((2, ((ONE, poly(2, 4, 2, 3)),) + TABLE[1][1:]), pdone, TABLE, (ADD,))
        self.assertTold((2, ((ONE, X), ((), poly(2, 3)), (poly(5), poly(0, 0, 1)))), pdone, TABLE, (("add", 0, 1, ()),))
        for deed in RIGHT:
            self.assertTold(plain_pdone(TABLE, (deed,)), pdone, TABLE, (deed,))

    def test_one_behind_the_other(self):
        self.assertTold((1, ((poly(3),), (poly(0, 3),))), pdone, (1, ((X,), (poly(3),))),
                        (("swap", 0, 1), ("times", 1, (1, 1)), ("add", 1, 0, X), ("add", 1, 0, ()), ("add", 1, 0, X),
                         ("add", 1, 0, poly(Fraction(-1, 3), -1)), ("add", 1, 0, poly(Fraction(1, 3))), ("add", 1, 0, poly(0, Fraction(-1, 3)))))

    def test_any_ones(self):
        dice = random.Random(74)
        for table in ptables_by(74, 80):
            deeds = pdeeds_by(dice, len(table[1]), dice.randint(0, 6))
            self.assertTold(plain_pdone(table, deeds), pdone, table, deeds)

    def test_forty(self):
        dice = random.Random(75)
        for many in (1, 2, 3):
            table = ptable_by(dice, many, 2)
            deeds = pdeeds_by(dice, many, 40)
            self.assertSame(len(deeds), 40)
            self.assertTold(plain_pdone(table, deeds), pdone, table, deeds)
            self.refused(-1, table, deeds + deeds[:1])
            self.refused(39, table, deeds[:39] + (("swap", 0, 9),))
        self.assertTold(TABLE, pdone, TABLE, (SWAP,) * 40)

    def test_no_tuple_of_at_most_forty(self):
        for thing in [None, True, 0, -1, "", "swap", [], [SWAP], [SWAP, ADD], (SWAP,) * 41, (ADD,) * 41, (None,) * 41, (0,) * 200,
                      ("add", 0, 0, ONE) * 11]:
            self.refused(-1, TABLE, thing)
            self.refused(-1, (1, ()), thing)

    def test_the_first_thing_that_is_none(self):
        for wrong in WRONG + [thing for thing in ODD_THINGS]:
            self.refused(0, TABLE, (wrong,))
            self.refused(1, TABLE, (ADD, wrong))
            self.refused(2, TABLE, (SWAP, TIMES, wrong, None, ADD))
            self.refused(0, TABLE, (wrong, wrong))
            self.refused(39, TABLE, (SWAP,) * 39 + (wrong,))
        for deed in RIGHT[:6]:
            for wrong in wrong_kinds(deed):
                self.refused(1, TABLE, (SWAP, wrong))
            self.refused(0, TABLE, deed)
            self.refused(0, TABLE, (deed[:-1], deed))
            self.refused(1, TABLE, (deed, deed + (0,)))
            self.refused(0, TABLE, (listed(deed),))

    def test_tables_of_no_row_and_of_one_row(self):
        for table in [(0, ()), (1, ()), (3, ())]:
            self.assertTold(table, pdone, table, ())
            for deed in RIGHT + [("times", 0, (1, 1))]:
                self.refused(0, table, (deed,))
        one = (2, ((X, poly(4)),))
        self.assertTold((2, ((poly(0, 3), poly(12)),)), pdone, one, (("times", 0, (3, 1)),))
        for deed in [("swap", 0, 0), ("swap", 0, 1), ("add", 0, 0, ONE), ("add", 0, 1, ONE), ("times", 1, (1, 1))]:
            self.refused(1, one, (("times", 0, (3, 1)), deed))


class Tables(Case):
    def test_known_ones(self):
        for many in (0, 1, 2, 5):
            self.assertTold(plain_punit(many), pdeeds_table, many, ())
        self.assertTold((2, ((ONE, X), ((), ONE))), pdeeds_table, 2, (("add", 0, 1, X),))
        self.assertTold((2, (((), ONE), (((1, 3),), ()))), pdeeds_table, 2, (("times", 0, (1, 3)), ("swap", 0, 1)))

    def test_it_times_the_table_is_the_led_one(self):
        dice = random.Random(76)
        for table in ptables_by(76, 60):
            many = len(table[1])
            for count in (0, 1, 4):
                deeds = pdeeds_by(dice, many, count)
                self.assertTold(plain_pdone(plain_punit(many), deeds), pdeeds_table, many, deeds)
                self.assertSame(ptimes(pdeeds_table(many, deeds), table), pdone(table, deeds))

    def test_others_behind_them(self):
        dice = random.Random(77)
        for _ in range(20):
            first, second = pdeeds_by(dice, 3, 3), pdeeds_by(dice, 3, 3)
            self.assertSame(pdeeds_table(3, first + second), ptimes(pdeeds_table(3, second), pdeeds_table(3, first)))


class LedBack(Case):
    def test_there_and_back(self):
        dice = random.Random(78)
        for table in ptables_by(78, 60):
            many = len(table[1])
            deeds = pdeeds_by(dice, many, dice.randint(0, 8))
            back = pled_back(deeds)
            self.assertIs(type(back), tuple)
            self.assertSame(len(back), len(deeds))
            self.assertSame(pdone(pdone(table, deeds), back), table)
            self.assertSame(pdone(pdone(table, back), deeds), table)
            self.assertSame(ptimes(pdeeds_table(many, deeds), pdeeds_table(many, back)), punit(many))

    def test_each_sort_and_forty(self):
        self.assertSame(len(pled_back(())), 0)
        for deed in RIGHT:
            back = pled_back((deed,))
            self.assertSame(len(back), 1)
            self.assertSame(pdone(pdone(TABLE, (deed,)), back), TABLE)
        deeds = pdeeds_by(random.Random(79), 3, 40, 1, 2, 1)
        self.assertSame(len(pled_back(deeds)), 40)
        self.assertSame(pdone(pdone(TABLE, deeds), pled_back(deeds)), TABLE)
        self.assertSame(pdone(pdone(TABLE, pled_back(deeds)), pled_back(pled_back(deeds))), TABLE)


if __name__ == "__main__":
    unittest.main()
