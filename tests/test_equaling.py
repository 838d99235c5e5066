"""Promise 62 (and 5 of equal and unequal tables)."""

import itertools
import random
import unittest

from stepforms.deeds import done
from stepforms.equalchecker import lets_equal
from stepforms.equaling import equal_paper
from stepforms.rounding import rounds_of, rounds_paper
from stepforms.tables import turned_over
from tests.helper import Case, deeds_by, plain_downs, plain_unit, table_by, tables_by

EQUAL = [
    ((1, ()), (1, ())), ((4, ()), (4, ())), ((2, ((0, 0),)), (2, ((0, 0),))), ((1, ((5,),)), (1, ((-5,),))),
    ((2, ((2, 0), (0, 3))), (2, ((1, 0), (0, 6)))), ((2, ((1, 2), (3, 4))), (2, ((2, 0), (0, 1)))),
    ((2, ((4, 6),)), (2, ((0, -2),))), ((1, ((4,), (6,))), (1, ((0,), (2,)))), ((2, ((2, 4), (2, 4))), (2, ((0, 0), (0, 2)))),
]
UNEQUAL = [
    ((1, ((5,),)), (1, ((4,),))), ((1, ((0,),)), (1, ((1,),))), ((2, ((1, 0), (0, 4))), (2, ((2, 0), (0, 2)))),
    ((2, ((1, 2), (3, 4))), (2, ((1, 2), (2, 4)))), ((2, ((0, 0),)), (2, ((0, 1),))), ((2, ((3, 0), (0, 0))), (2, ((3, 0), (0, 3)))),
]


class Equaling(Case):
    def looked_at(self, one, other):
        right = "equal" if plain_downs(one) == plain_downs(other) else "unequal"
        self.assertSame(rounds_of(one) == rounds_of(other), right == "equal")
        for first, second in ((one, other), (other, one)):
            paper = equal_paper(first, second)
            self.assertSame((paper[0], len(paper)), (right, 5 if right == "equal" else 3))
            self.assertTold(True, lets_equal, first, second, paper)
        return right

    def test_known_ones(self):
        for one, other in EQUAL:
            self.assertSame(self.looked_at(one, other), "equal")
        for one, other in UNEQUAL:
            self.assertSame(self.looked_at(one, other), "unequal")

    def test_tables_led_by_deeds(self):
        dice = random.Random(62)
        for table in tables_by(62, 120, 99):
            led = done(table, deeds_by(dice, len(table[1]), 6))
            led = turned_over(done(turned_over(led), deeds_by(dice, table[0], 6)))
            self.assertSame(self.looked_at(table, led), "equal")

    def test_a_table_and_itself(self):
        for table in tables_by(63, 60, 99):
            self.assertSame(self.looked_at(table, table), "equal")

    def test_square_tables_and_turned_over_ones(self):
        dice = random.Random(64)
        for _ in range(60):
            table = table_by(dice, 3, 3, 99)
            self.assertSame(self.looked_at(table, turned_over(table)), "equal")

    def test_others(self):
        tables = tables_by(65, 60, 2)
        words = [self.looked_at(one, other) for one, other in itertools.combinations(tables, 2)
                 if one[0] == other[0] and len(one[1]) == len(other[1])]
        self.assertGreater(words.count("equal"), 5)
        self.assertGreater(words.count("unequal"), 5)

    def test_what_was_told_may_be_handed_in(self):
        dice = random.Random(66)
        for _ in range(20):
            paper = rounds_paper(table_by(dice, 4, 4, 99))
            for told in paper[2:]:
                self.assertSame(self.looked_at(told, plain_unit(4)), "equal")
                self.assertSame(self.looked_at(told, paper[3]), "equal")


if __name__ == "__main__":
    unittest.main()
