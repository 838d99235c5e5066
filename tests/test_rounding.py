"""Promises 58 and 59 (and 5 of rounds)."""

import random
import unittest

from stepforms.backs import back_of
from stepforms.deeds import done
from stepforms.lattices import form_of
from stepforms.roundchecker import downs_of, is_rounds, lets_rounds
from stepforms.rounding import rounds_deeds, rounds_of, rounds_paper
from stepforms.tables import stacked, turned_over
from tests.helper import Case, deeds_by, plain_downs, plain_rounds, plain_turned, plain_unit, table_by, tables_by

KNOWN = [
    ((0, ()), (0, ())), ((1, ()), (1, ())), ((4, ()), (4, ())), ((0, ((), ())), (0, ((), ()))),
    ((1, ((0,),)), (1, ((0,),))), ((1, ((-5,),)), (1, ((5,),))), ((3, ((0, 0, 0), (0, 0, 0))), (3, ((0, 0, 0), (0, 0, 0)))),
    ((2, ((4, 6),)), (2, ((2, 0),))), ((1, ((4,), (6,), (9,))), (1, ((1,), (0,), (0,)))),
    ((2, ((2, 0), (0, 3))), (2, ((1, 0), (0, 6)))), ((2, ((0, 0), (0, 5))), (2, ((5, 0), (0, 0)))),
    ((2, ((1, 2), (3, 4))), (2, ((1, 0), (0, 2)))), ((2, ((2, 4), (2, 4))), (2, ((2, 0), (0, 0)))),
    ((2, ((6, 0), (0, 4))), (2, ((2, 0), (0, 12)))), ((3, ((2, 4, 4), (-6, 6, 12), (10, 4, 16))), (3, ((2, 0, 0), (0, 2, 0), (0, 0, 156)))),
    ((3, ((6, 0, 0), (0, 10, 0), (0, 0, 15))), (3, ((1, 0, 0), (0, 30, 0), (0, 0, 30)))),
    ((4, ((0, 0, 0, 9),)), (4, ((9, 0, 0, 0),))), ((1, ((0,), (0,), (0,), (-9,))), (1, ((9,), (0,), (0,), (0,)))),
    ((4, ((2, 0, 0, 0), (0, 2, 0, 0), (0, 0, 2, 0), (1, 1, 1, 1))),
     (4, ((1, 0, 0, 0), (0, 2, 0, 0), (0, 0, 2, 0), (0, 0, 0, 2)))),
]


class Rounding(Case):
    def looked_at(self, table):
        """The rounds are those of the corners, the paper is let by and tells them, and the deeds lead there."""
        many = len(table[1])
        form = plain_rounds(table[0], many, plain_downs(table))
        self.assertTold(form, rounds_of, table)
        self.assertTold(True, is_rounds, form)
        paper = rounds_paper(table)
        self.assertSame(paper[1], form)
        self.assertTold(True, lets_rounds, table, paper)
        deeds = rounds_deeds(table)
        self.assertIs(type(deeds), tuple)
        self.assertEqual([type(part) for part in deeds], [tuple, tuple])
        by_rows, by_columns = deeds
        self.assertSame(turned_over(done(turned_over(done(table, by_rows)), by_columns)), form)

    def test_known_ones(self):
        for table, form in KNOWN:
            self.assertTold(form, rounds_of, table)
            self.assertTold(form, rounds_of, form)
            self.looked_at(table)
            self.looked_at(form)

    def test_tables(self):
        for table in tables_by(58, 300, 99):
            self.looked_at(table)

    def test_full_tables(self):
        dice = random.Random(59)
        for _ in range(60):
            self.looked_at(table_by(dice, 4, 4, 99))
            self.looked_at(table_by(dice, dice.randint(1, 4), dice.randint(1, 4), 1))

    def test_common_divisors(self):
        dice = random.Random(60)
        for _ in range(100):
            wide, rows = table_by(dice, 3, 3, 3)
            factors = [dice.choice([0, 2, 6, 12, 30]) for _ in range(3)]
            self.looked_at((wide, tuple(tuple(k * number for number in row) for k, row in zip(factors, rows))))

    def test_nought_rows_and_alike_rows(self):
        for wide, rows in tables_by(61, 80, 99):
            table = (wide, rows[:3])
            for more in (((0,) * wide,), rows[:1]):
                self.looked_at(stacked(table, (wide, more)))

    def test_the_same_whatever_deeds_led_there(self):
        dice = random.Random(62)
        for table in tables_by(62, 150, 99):
            led = done(table, deeds_by(dice, len(table[1]), 6))
            led = turned_over(done(turned_over(led), deeds_by(dice, table[0], 6)))
            self.assertTold(rounds_of(table), rounds_of, led)
            self.assertTold(True, lets_rounds, led, rounds_paper(led))

    def test_turned_over(self):
        for table in tables_by(63, 150, 99):
            self.assertTold(plain_turned(rounds_of(table)), rounds_of, turned_over(table))

    def test_of_no_rows_the_table_itself(self):
        for wide in (0, 1, 2, 3, 4):
            table, one = (wide, ()), plain_unit(wide)
            self.assertTold(table, rounds_of, table)
            paper = rounds_paper(table)
            self.assertSame(paper[:4], ("rounds", table, (0, ()), (0, ())))
            self.assertTold(True, lets_rounds, table, paper)
            self.assertSame(rounds_deeds(table)[0], ())
            self.assertSame(len(paper[4][1]), len(one[1]))

    def test_of_the_form_the_same_rounds_above_nought(self):
        for table in tables_by(64, 80, 99):
            one, other = downs_of(rounds_of(table)), downs_of(rounds_of(form_of(table)))
            self.assertSame([down for down in one if down > 0], [down for down in other if down > 0])

    def test_what_was_told_may_be_handed_in(self):
        for table in tables_by(65, 40, 99):
            for told in rounds_paper(table)[1:]:
                self.looked_at(told)
            for told in rounds_paper(table)[2:]:
                self.assertTold(plain_unit(told[0]), rounds_of, told)
                self.assertTold(plain_unit(told[0]), rounds_of, back_of(told))


if __name__ == "__main__":
    unittest.main()
