"""Promises 55 to 57 (and 2 and 7 of them)."""

import itertools
import math
import random
import unittest

from stepforms.backs import corners_of
from stepforms.deeds import deeds_table, led_back
from stepforms.errors import NoPaper
from stepforms.roundchecker import downs_of, is_rounds, lets_rounds
from tests.helper import (
    ODD_THINGS, VERY_LONG, Case, deeds_by, plain_downs, plain_rounds, plain_times, plain_turned, plain_unit, table_by,
    wrong_counts, wrong_kinds)

# Tables in rounds, with their downs.
ROUNDS = [
    ((0, ()), ()), ((0, ((), ())), ()), ((3, ()), ()), ((VERY_LONG, ()), ()),
    ((1, ((0,),)), (0,)), ((1, ((1,),)), (1,)), ((1, ((7,),)), (7,)), ((1, ((VERY_LONG,),)), (VERY_LONG,)),
    ((2, ((0, 0),)), (0,)), ((2, ((5, 0),)), (5,)), ((1, ((5,), (0,))), (5,)), ((1, ((0,), (0,), (0,))), (0,)),
    ((2, ((0, 0), (0, 0))), (0, 0)), ((2, ((1, 0), (0, 0))), (1, 0)), ((2, ((2, 0), (0, 6))), (2, 6)),
    ((2, ((3, 0), (0, 3))), (3, 3)), ((2, ((3, 0), (0, 0))), (3, 0)), ((3, ((2, 0, 0), (0, 4, 0))), (2, 4)),
    ((2, ((2, 0), (0, 4), (0, 0))), (2, 4)), ((2, ((2, 0), (0, 0), (0, 0), (0, 0), (0, 0))), (2, 0)),
    ((4, ((1, 0, 0, 0), (0, 2, 0, 0), (0, 0, 4, 0), (0, 0, 0, 0))), (1, 2, 4, 0)),
    ((2, ((VERY_LONG, 0), (0, 12 * VERY_LONG))), (VERY_LONG, 12 * VERY_LONG)),
    (plain_rounds(40, 35, (3,) * 34 + (0,)), (3,) * 34 + (0,)),
]
NO_ROUNDS = [
    (1, ((-1,),)), (2, ((2, 0), (0, -6))), (2, ((-2, 0), (0, 6))), (2, ((0, 0), (0, -1))), (2, ((2, 0), (0, 3))),
    (2, ((6, 0), (0, 2))), (2, ((0, 0), (0, 1))), (2, ((0, 0), (0, VERY_LONG))), (2, ((2, 1), (0, 2))), (2, ((2, 0), (2, 2))),
    (2, ((0, 1),)), (2, ((1, -1),)), (1, ((1,), (1,))), (1, ((0,), (-1,))), (2, ((0, 1), (0, 0))), (2, ((1, 0), (0, 1), (0, 1))),
    (3, ((1, 0, 0), (0, 0, 0), (0, 0, 1))), (3, ((1, 0, 0), (0, 2, 0), (0, 0, 3))), (3, ((2, 0, 0), (0, 3, 0), (0, 0, 6))),
    (3, ((1, 0, 0), (0, 1, 1))), (2, ((2, 0), (0, 4), (1, 0))), (2, ((VERY_LONG, 0), (0, VERY_LONG + 1))),
    (2, ((2, 0), (0, 2), (0, 0), (0, 1))), (4, ((2, 0, 0, 0), (0, 2, 0, 1))),
]


class Looked(Case):
    def test_rounds(self):
        for table, downs in ROUNDS:
            self.assertTold(True, is_rounds, table)
            self.assertTold(downs, downs_of, table)

    def test_no_rounds(self):
        for thing in NO_ROUNDS + ODD_THINGS:
            self.assertTold(False, is_rounds, thing)

    def test_no_tables(self):
        for table in [(2, ((1, 0), (0, 1))), (2, ((0, 0), (0, 0))), (1, ((1,),)), (2, ((1, 0),))]:
            for thing in wrong_kinds(table):
                self.assertTold(False, is_rounds, thing)
        for thing in [(2, ((True, 0), (0, 1))), (2, ((1, False), (0, 1))), (2, [(1, 0)]), (2, ([1, 0],)), [2, ((1, 0),)],
                      (2, ((1, 0, 0),)), (2, ((1,),)), (-1, ()), (True, ((1,),)), (False, ()), (VERY_LONG, ((),)),
                      (2, ((1, 0), None)), (2, ((1, 0), (0, "0"))), (2, ((1, 0), (0, 1)), ())]:
            self.assertTold(False, is_rounds, thing)

    def test_all_small_ones(self):
        for a, b, c, d in itertools.product((-1, 0, 1, 2, 3, 4), repeat=4):
            right = b == c == 0 and a >= 0 and d >= 0 and (d == 0 or (a > 0 and d % a == 0))
            self.assertSame(is_rounds((2, ((a, b), (c, d)))), right)


def paper_by(dice, many, wide, downs):
    """A table with these downs and a right paper of it, by deeds of the dice."""
    rows, columns = deeds_by(dice, many, 6, 4), deeds_by(dice, wide, 6, 4)
    left, left_back = deeds_table(many, rows), deeds_table(many, led_back(rows))
    right, right_back = deeds_table(wide, columns), deeds_table(wide, led_back(columns))
    form = plain_rounds(wide, many, downs)
    table = plain_times(plain_times(left_back, form), right_back)
    return table, ("rounds", form, left, left_back, right, right_back)


DOWNS = [(1, 2, 6, 0), (1, 1, 1, 1), (0, 0, 0, 0), (2, 2, 4, 12), (3, 0, 0, 0), (1, 5, 5, 25), (7, 7, 7, 7), (1, 1, 0, 0)]


def papers_by(seed, count):
    dice = random.Random(seed)
    for _ in range(count):
        yield paper_by(dice, dice.randint(0, 4), dice.randint(0, 4), dice.choice(DOWNS))


class Letting(Case):
    def refused(self, word, number, table, thing):
        self.assertRefused(NoPaper, {"word": word, "number": number}, lets_rounds, table, thing)

    # (1, 2, 3, 4): left and right lead it to the numbers 1 and 2.
    TABLE = (2, ((1, 2), (3, 4)))
    PAPER = ("rounds", (2, ((1, 0), (0, 2))), (2, ((1, 0), (3, -1))), (2, ((1, 0), (3, -1))), (2, ((1, -2), (0, 1))),
             (2, ((1, 2), (0, 1))))

    def changed(self, place, part):
        return self.PAPER[:place] + (part,) + self.PAPER[place + 1:]


class Right(Letting):
    def test_right_papers(self):
        self.assertTold(True, lets_rounds, self.TABLE, self.PAPER)
        for table, paper in papers_by(56, 300):
            self.assertTold(True, lets_rounds, table, paper)

    def test_papers_are_not_one_alone(self):
        form = (2, ((0, 0), (0, 0)))
        for k in (0, 3, -7, VERY_LONG):
            left, back = (2, ((1, k), (0, 1))), (2, ((1, -k), (0, 1)))
            self.assertTold(True, lets_rounds, form, ("rounds", form, left, back, back, left))

    def test_tables_without_rows_and_of_no_width(self):
        for wide in (0, 1, 3):
            for right, back in [(plain_unit(wide), plain_unit(wide)), (plain_turned(plain_unit(wide)), plain_unit(wide))]:
                self.assertTold(True, lets_rounds, (wide, ()), ("rounds", (wide, ()), (0, ()), (0, ()), right, back))
        self.assertTold(True, lets_rounds, (2, ()),
                        ("rounds", (2, ()), (0, ()), (0, ()), (2, ((0, 1), (1, 0))), (2, ((0, 1), (1, 0)))))
        table = (0, ((), ()))
        left, back = (2, ((1, 9), (0, 1))), (2, ((1, -9), (0, 1)))
        self.assertTold(True, lets_rounds, table, ("rounds", table, left, back, (0, ()), (0, ())))

    def test_rounds_as_they_are(self):
        for table, _ in ROUNDS:
            if table[0] < 50:
                left, right = plain_unit(len(table[1])), plain_unit(table[0])
                self.assertTold(True, lets_rounds, table, ("rounds", table, left, left, right, right))


class Wrong(Letting):
    def test_rounds_alone(self):
        # All else is right: left and right lead the table to the form, but that is no ROUNDS.
        for table in NO_ROUNDS:
            left, right = plain_unit(len(table[1])), plain_unit(table[0])
            self.refused("rounds", 1, table, ("rounds", table, left, left, right, right))

    def test_left_alone(self):
        nought = (2, ((0, 0), (0, 0)))
        one = plain_unit(2)
        for left, back in [(one, nought), (nought, one), (one, (2, ((1, 0), (0, 2)))), ((2, ((1, 0), (0, 2))), one),
                           (one, (2, ((1, VERY_LONG), (0, 1)))), ((2, ((1, 1), (0, 1))), (2, ((1, 1), (0, 1)))),
                           ((2, ((2, 0), (0, 1))), (2, ((0, 0), (0, 1))))]:
            self.refused("left", 3, nought, ("rounds", nought, left, back, one, one))
            self.refused("right", 5, nought, ("rounds", nought, one, one, left, back))
        self.refused("left", 3, self.TABLE, self.changed(3, (2, ((1, 0), (3, 1)))))

    def test_right_alone(self):
        self.refused("right", 5, self.TABLE, self.changed(5, (2, ((1, 2), (0, -1)))))
        self.refused("right", 5, self.TABLE, self.changed(5, plain_unit(2)))
        # Of a table without rows left and left back are without rows, too, but right must have its back.
        self.refused("right", 5, (1, ()), ("rounds", (1, ()), (0, ()), (0, ()), (1, ((2,),)), (1, ((1,),))))
        self.refused("left", 3, (0, ((),)), ("rounds", (0, ((),)), (1, ((1,),)), (1, ((-1,),)), (0, ()), (0, ())))

    def test_product_alone(self):
        self.refused("product", 1, self.TABLE, self.changed(1, (2, ((1, 0), (0, 1)))))
        self.refused("product", 1, self.TABLE, self.changed(1, (2, ((1, 0), (0, 4)))))
        self.refused("product", 1, self.TABLE, self.changed(1, (2, ((0, 0), (0, 0)))))
        self.refused("product", 1, (2, ((1, 2), (3, 5))), self.PAPER)
        one = plain_unit(2)
        self.refused("product", 1, (2, ((1, 0), (0, -2))), ("rounds", (2, ((1, 0), (0, 2))), one, one, one, one))
        # Left and right stand on their own sides.
        self.refused("product", 1, self.TABLE, self.PAPER[:2] + self.PAPER[4:] + self.PAPER[2:4])

    def test_of_two_faults_the_first_goes(self):
        no_form, no_back = (2, ((1, 0), (0, -2))), (2, ((2, 0), (0, 2)))
        form = (2, ((1, 0), (0, 1)))
        word, right_form, left, left_back, right, right_back = self.PAPER
        for thing, fault in [
                ((word, no_form, left, no_back, right, no_back), ("rounds", 1)),
                ((word, no_form, left, left_back, right, no_back), ("rounds", 1)),
                ((word, no_form, left, left_back, right, right_back), ("rounds", 1)),
                ((word, form, left, no_back, right, no_back), ("left", 3)),
                ((word, right_form, left, no_back, right, no_back), ("left", 3)),
                ((word, form, left, left_back, right, no_back), ("right", 5)),
                ((word, form, left, left_back, right, right_back), ("product", 1)),
                ((word, no_form, left, no_back, right, (2, ((1, 0),))), ("shape", 0))]:
            self.refused(*fault, self.TABLE, thing)

    def test_shape(self):
        for thing in ODD_THINGS + wrong_counts(self.PAPER) + wrong_kinds(self.PAPER) + [list(self.PAPER)]:
            self.refused("shape", 0, self.TABLE, thing)
        for word in ["", "Rounds", "round", "steps", None, 1, ("rounds",), ["rounds"]]:
            self.refused("shape", 0, self.TABLE, self.changed(0, word))
        for place in range(1, 6):
            for part in [(2, ((1, 0),)), (2, ((1, 0), (0, 1), (0, 0))), (3, ((1, 0, 0), (0, 1, 0))), plain_unit(1), plain_unit(3),
                         (1, ((1,), (0,))), (0, ()), (2, ()), (2, ((1, 0), (0, True))), None, self.PAPER]:
                self.refused("shape", 0, self.TABLE, self.changed(place, part))

    def test_shape_of_other_sizes(self):
        # m rows and w wide: form m by w, lefts square of m, rights square of w.
        table = (3, ((1, 0, 0), (0, 1, 0)))
        two, three = plain_unit(2), plain_unit(3)
        self.assertTold(True, lets_rounds, table, ("rounds", table, two, two, three, three))
        for parts in [(table, three, three, two, two), (table, two, two, two, two), (table, three, three, three, three),
                      (table, two, three, three, three), (table, two, two, three, two), (two, two, two, three, three),
                      ((2, ((1, 0), (0, 1), (0, 0))), two, two, three, three)]:
            self.refused("shape", 0, table, ("rounds",) + parts)
        self.refused("shape", 0, (2, ()), ("rounds", (2, ()), (0, ()), (0, ()), (0, ()), (0, ())))
        self.refused("shape", 0, (2, ()), ("rounds", (3, ()), (0, ()), (0, ()), two, two))
        self.refused("shape", 0, (VERY_LONG, ()), ("rounds", (VERY_LONG, ()), (0, ()), (0, ()), (VERY_LONG, ()), (VERY_LONG, ())))


class LetBy(Case):
    def test_products_of_downs_divide_all_corners(self):
        for table, paper in papers_by(57, 150):
            self.assertSame(lets_rounds(table, paper), True)
            downs = downs_of(paper[1])
            for k in range(1, len(downs) + 1):
                self.assertSame(math.gcd(*corners_of(table, k)), math.prod(downs[:k]))

    def test_what_is_let_by_is_so(self):
        dice = random.Random(58)
        let = 0
        for _ in range(4000):
            many, wide = dice.choice([(1, 1), (1, 2), (2, 1)])
            table = table_by(dice, many, wide, 1)
            parts = [table_by(dice, m, w, 1) for m, w in [(many, wide), (many, many), (many, many), (wide, wide), (wide, wide)]]
            form, left, left_back, right, right_back = parts
            right_one = (is_rounds(form) and plain_times(left, left_back) == plain_unit(many)
                         and plain_times(right, right_back) == plain_unit(wide)
                         and plain_times(plain_times(left, table), right) == form)
            try:
                told = lets_rounds(table, ("rounds", *parts))
            except NoPaper:
                told = False
            self.assertSame(told, right_one)
            if told:
                let += 1
                self.assertSame(downs_of(form), plain_downs(table))
        self.assertGreater(let, 5)


if __name__ == "__main__":
    unittest.main()
