"""Promises 28 and 29 (and 5 of steps)."""

import random
import unittest

from stepforms.deeds import done
from stepforms.stepchecker import is_steps, lets_steps
from stepforms.stepping import leads_of, rank_of, steps_deeds, steps_of, steps_paper
from tests.helper import Case, deeds_by, tables_by

KNOWN = [
    ((0, ()), (0, ()), []),
    ((3, ()), (3, ()), []),
    ((0, ((), ())), (0, ((), ())), []),
    ((2, ((0, 0),)), (2, ((0, 0),)), []),
    ((2, ((0, 0), (0, 0))), (2, ((0, 0), (0, 0))), []),
    ((1, ((-5,),)), (1, ((5,),)), [0]),
    ((1, ((4,), (6,))), (1, ((2,), (0,))), [0]),
    ((1, ((4,), (6,), (9,))), (1, ((1,), (0,), (0,))), [0]),
    ((2, ((0, 0), (0, -3))), (2, ((0, 3), (0, 0))), [1]),
    ((2, ((3, 4), (3, 4))), (2, ((3, 4), (0, 0))), [0]),
    ((2, ((3, 4), (-3, -4))), (2, ((3, 4), (0, 0))), [0]),
    ((2, ((4, 6), (6, 9))), (2, ((2, 3), (0, 0))), [0]),
    ((2, ((1, 2), (3, 4))), (2, ((1, 0), (0, 2))), [0, 1]),
    ((2, ((0, 1), (1, 0))), (2, ((1, 0), (0, 1))), [0, 1]),
    ((2, ((5, -1), (0, 3))), (2, ((5, 2), (0, 3))), [0, 1]),
    ((3, ((2, 4, 4), (4, 9, 10))), (3, ((2, 0, -4), (0, 1, 2))), [0, 1]),
    ((3, ((0, 0, -7), (0, 2, 3), (0, 4, 6))), (3, ((0, 2, 3), (0, 0, 7), (0, 0, 0))), [1, 2]),
    ((4, ((0, 3, 0, 1), (0, 0, 0, 2))), (4, ((0, 3, 0, 1), (0, 0, 0, 2))), [1, 3]),
    ((3, ((2, 0, 0), (0, 3, 0), (1, 1, 1))), (3, ((1, 0, 3), (0, 1, 4), (0, 0, 6))), [0, 1, 2]),
]


class Known(Case):
    def test_steps_of(self):
        for table, form, _ in KNOWN:
            self.assertTold(form, steps_of, table)
            self.assertTold(form, steps_of, form)

    def test_leads_and_rank(self):
        for table, _, leads in KNOWN:
            self.assertTold(leads, leads_of, table)
            self.assertTold(len(leads), rank_of, table)

    def test_a_told_list_is_the_askers_own(self):
        table = (2, ((1, 2), (3, 4)))
        leads_of(table).append(9)
        self.assertSame(leads_of(table), [0, 1])
        self.assertSame(rank_of(table), 2)


class Made(Case):
    def test_papers_are_let_by(self):
        for table in tables_by(28, 300, 99) + [known[0] for known in KNOWN]:
            paper = steps_paper(table)
            self.assertTold(True, lets_steps, table, paper)
            self.assertSame(paper[1], steps_of(table))
            self.assertTold(True, is_steps, paper[1])

    def test_leads_are_those_of_the_steps_table(self):
        for table in tables_by(29, 200, 99):
            rows = [row for row in steps_of(table)[1] if any(row)]
            leads = [[column for column, number in enumerate(row) if number != 0][0] for row in rows]
            self.assertTold(leads, leads_of, table)
            self.assertTold(len(rows), rank_of, table)
            self.assertSame(leads, sorted(leads))

    def test_the_same_whatever_deeds_led_there(self):
        dice = random.Random(30)
        for table in tables_by(30, 200, 99):
            many = len(table[1])
            led = done(table, deeds_by(dice, many, 12, 9))
            self.assertSame(steps_of(led), steps_of(table))
            self.assertTold(True, lets_steps, led, steps_paper(led))

    def test_deeds_lead_to_the_steps_table(self):
        for table in tables_by(31, 200, 99) + [known[0] for known in KNOWN]:
            deeds = steps_deeds(table)
            self.assertIsInstance(deeds, tuple)
            self.assertSame(done(table, deeds), steps_of(table))

    def test_tables_in_steps_need_no_more(self):
        for table in [(0, ()), (4, ()), (0, ((), ())), (2, ((3, 1), (0, 2)))]:
            self.assertSame(done(table, steps_deeds(table)), table)

    def test_what_was_told_may_be_handed_in(self):
        for table in tables_by(32, 60, 99):
            for told in steps_paper(table)[1:]:
                self.assertTold(True, lets_steps, told, steps_paper(told))

    def test_a_paper_of_no_rows(self):
        for wide in (0, 1, 4):
            self.assertTold(("steps", (wide, ()), (0, ()), (0, ())), steps_paper, (wide, ()))


if __name__ == "__main__":
    unittest.main()
