"""Promises 79 and 80, of what is looked at (and 2 and 7 of them)."""

import itertools
import random
import unittest

from stepforms.errors import NoPaper
from stepforms.proundchecker import is_prounds, lets_prounds
from tests.helper import (
    ODD_THINGS, VERY_LONG, Case, plain_product, plain_ptimes, plain_punit, plain_rest, poly, pways_by, wrong_counts, wrong_kinds)

ONE = poly(1)
X = poly(0, 1)
XX = poly(0, 0, 1)
ROUNDS = [
    (0, ()), (0, ((), ())), (3, ()), (VERY_LONG, ()), (1, (((),),)), (1, ((ONE,),)), (1, ((X,),)), (1, ((poly(VERY_LONG, 1),),)),
    (2, ((X, ()),)), (1, ((X,), ((),))), (1, (((),), ((),), ((),))), (2, (((), ()), ((), ()))), (2, ((X, ()), ((), ()))),
    (2, ((X, ()), ((), X))), (2, ((ONE, ()), ((), poly(7, 1)))), (2, ((X, ()), ((), poly(0, -1, 1)))), (3, ((X, (), ()), ((), XX, ()))),
    (2, ((poly(1, 1), ()), ((), poly(-1, 0, 1)), ((), ()))), (2, ((ONE, ()), ((), ONE), ((), ()), ((), ()), ((), ()))),
    (3, ((ONE, (), ()), ((), X, ()), ((), (), ()))), (3, ((X, (), ()), ((), X, ()), ((), (), poly(0, 5, 0, 1)))),
    (2, ((((1, 2), (1, 1)), ()), ((), plain_product(((1, 2), (1, 1)), ((-7, 9), (1, 3), (1, 1)))))),
    (4, ((ONE, (), (), ()), ((), X, (), ()), ((), (), XX, ()), ((), (), (), XX))),
]
# Tables out of PROUNDS, with the least row with which they are.
NO_ROUNDS = [
    # A POLY beside the way down.
    ((2, ((ONE, ONE),)), 0), ((2, (((), ONE),)), 0), ((1, ((ONE,), (ONE,))), 1), ((1, (((),), (X,))), 1), ((2, ((ONE, ()), (X, X))), 1),
    ((2, ((ONE, ()), ((), ONE), ((), X))), 2), ((2, ((ONE, ()), ((), ()), (X, ()))), 2), ((3, ((X, (), ()), ((), X, poly(1, 2)))), 1),
    ((3, ((X, (), poly(9)), ((), X, ()))), 0), ((1, ((ONE,), ((),), ((),), (ONE,))), 3), ((2, (((), ()), (X, ()))), 1),
    # One on it that isn't MONIC.
    ((1, ((poly(2),),)), 0), ((1, ((poly(1, -1),),)), 0), ((1, ((((1, 1), (1, 2)),),)), 0), ((2, ((ONE, ()), ((), poly(0, 2)))), 1),
    ((2, ((X, ()), ((), poly(0, -1)))), 1), ((3, ((ONE, (), ()), ((), ONE, ()), ((), (), poly(VERY_LONG)))), 2),
    # One that isn't some POLY times the one ahead.
    ((2, ((X, ()), ((), ONE))), 1), ((2, ((X, ()), ((), poly(1, 1)))), 1), ((2, ((XX, ()), ((), X))), 1), ((2, ((X, ()), ((), poly(1, 0, 1)))), 1),
    ((3, ((ONE, (), ()), ((), XX, ()), ((), (), X))), 2), ((3, ((X, (), ()), ((), poly(0, 1, 1), ()), ((), (), poly(0, 2, 1)))), 2),
    ((2, ((poly(VERY_LONG, 1), ()), ((), poly(VERY_LONG + 1, 1)))), 1),
    # A () ahead of another one.
    ((2, (((), ()), ((), ONE))), 1), ((2, (((), ()), ((), X))), 1), ((3, ((X, (), ()), ((), (), ()), ((), (), X))), 2),
]


def plain_rounds_row(table):
    """The least row with which the rows, from row 0 to it, are not in PROUNDS, None where all are."""
    wide, rows = table
    for at, row in enumerate(rows):
        if any(thing != () for column, thing in enumerate(row) if column != at):
            return at
        if at < wide:
            down, ahead = row[at], rows[at - 1][at - 1] if at else ONE
            if down != () and (down[-1] != (1, 1) or ahead == () or plain_rest(down, ahead) != ()):
                return at
    return None


class Looked(Case):
    def test_rounds(self):
        for table in ROUNDS:
            self.assertTold(True, is_prounds, table)

    def test_no_rounds(self):
        for table, _ in NO_ROUNDS:
            self.assertTold(False, is_prounds, table)
        for thing in ODD_THINGS:
            self.assertTold(False, is_prounds, thing)

    def test_no_ptables(self):
        for table in [(2, ((X, ()), ((), XX))), (1, ((ONE,),)), (2, ((X, ()), ((), ()))), (1, ((((1, 2), (1, 1)),), ((),)))]:
            self.assertTold(True, is_prounds, table)
            for thing in wrong_kinds(table):
                self.assertTold(False, is_prounds, thing)
        for thing in [(1, ((((1, 1), (0, 1)),),)), (1, ((((2, 2),),),)), (2, ((ONE,),)), (1, ((ONE, ()),)), (2, ((1, 0), (0, 1))),
                      (True, ((ONE,),)), (-1, ()), (1, ((ONE,),), ()), (1, [(ONE,)]), (VERY_LONG, ((),)), (1, ((ONE,), ((0, 1),)))]:
            self.assertTold(False, is_prounds, thing)

    def test_all_small_ones(self):
        for parts in itertools.product([(), ONE, X, poly(2), poly(1, 1), poly(0, 1, 1)], repeat=4):
            table = (2, (parts[:2], parts[2:]))
            self.assertSame(is_prounds(table), plain_rounds_row(table) is None)

    def test_more_rows_than_wide_and_the_other_way_about(self):
        dice = random.Random(79)
        told = {True: 0, False: 0}
        for _ in range(6000):
            many, wide = dice.randint(0, 4), dice.randint(0, 4)
            rows = tuple(tuple(dice.choice([(), ONE, X, poly(0, 1, 1), XX]) if i == j else dice.choice([()] * 25 + [X])
                               for j in range(wide)) for i in range(many))
            right = plain_rounds_row((wide, rows)) is None
            self.assertSame(is_prounds((wide, rows)), right)
            told[right] += 1
        self.assertGreater(min(told.values()), 200)


def paper_by(dice, form):
    """A table with this form, and a right paper of it, by the dice."""
    left, left_back = pways_by(dice, len(form[1]), 3)
    right, right_back = pways_by(dice, form[0], 3)
    return plain_ptimes(plain_ptimes(left_back, form), right_back), ("prounds", form, left, left_back, right, right_back)


class Letting(Case):
    def refused(self, word, number, table, thing):
        self.assertRefused(NoPaper, {"word": word, "number": number}, lets_prounds, table, thing)

    # The second row less x times the first, then the second column less x times the first.
    TABLE = (2, ((ONE, X), (X, poly(0, 0, 1, 1))))
    FORM = (2, ((ONE, ()), ((), poly(0, 0, 0, 1))))
    LEFT, LEFT_BACK = (2, ((ONE, ()), (poly(0, -1), ONE))), (2, ((ONE, ()), (X, ONE)))
    RIGHT, RIGHT_BACK = (2, ((ONE, poly(0, -1)), ((), ONE))), (2, ((ONE, X), ((), ONE)))
    PAPER = ("prounds", FORM, LEFT, LEFT_BACK, RIGHT, RIGHT_BACK)

    def changed(self, place, part):
        return self.PAPER[:place] + (part,) + self.PAPER[place + 1:]


class Right(Letting):
    def test_right_papers(self):
        self.assertTold(True, lets_prounds, self.TABLE, self.PAPER)
        dice = random.Random(80)
        for form in ROUNDS:
            if form[0] < 50 and len(form[1]) < 4:
                for _ in range(6):
                    table, paper = paper_by(dice, form)
                    self.assertTold(True, lets_prounds, table, paper)

    def test_papers_are_not_one_alone(self):
        form = (2, (((), ()), ((), ())))
        for k in [(), ONE, poly(1, 2, 3), ((VERY_LONG, 1),), ((0, 1),) * 12 + ((-1, 7),)]:
            there, back = (2, ((ONE, k), ((), ONE))), (2, ((ONE, tuple((-top, bottom) for top, bottom in k)), ((), ONE)))
            self.assertTold(True, lets_prounds, form, ("prounds", form, there, back, back, there))

    def test_tables_without_rows(self):
        for wide in (0, 1, 3):
            unit = plain_punit(wide)
            self.assertTold(True, lets_prounds, (wide, ()), ("prounds", (wide, ()), (0, ()), (0, ()), unit, unit))
        turned = (1, ((poly(-2),),))
        self.assertTold(True, lets_prounds, (1, ()), ("prounds", (1, ()), (0, ()), (0, ()), turned, (1, ((((-1, 2),),),))))
        self.refused("right", 0, (1, ()), ("prounds", (1, ()), (0, ()), (0, ()), turned, turned))
        self.refused("right", 1, (2, ()), ("prounds", (2, ()), (0, ()), (0, ()), plain_punit(2), (2, ((ONE, ()), (X, ONE)))))
        for parts in [((1, ()), (0, ()), (0, ()), (0, ()), (0, ())), ((2, ()), (0, ()), (0, ()), turned, turned),
                      ((1, ()), (1, ()), (0, ()), turned, turned), ((1, ()), turned, turned, turned, turned),
                      ((1, ()), (0, ()), (0, ((),)), turned, turned)]:
            self.refused("shape", 0, (1, ()), ("prounds",) + parts)
        nought = (0, ((), ()))
        there, back = pways_by(random.Random(81), 2)
        self.assertTold(True, lets_prounds, nought, ("prounds", nought, there, back, (0, ()), (0, ())))


class Wrong(Letting):
    def test_form_alone(self):
        # All else is right: left and right lead the table to the form, but that is not in PROUNDS.
        for table, row in NO_ROUNDS:
            left, right = plain_punit(len(table[1])), plain_punit(table[0])
            self.assertSame(plain_rounds_row(table), row)
            self.refused("form", row, table, ("prounds", table, left, left, right, right))

    def test_middle_alone(self):
        three, two = plain_punit(3), plain_punit(2)
        form = (2, ((ONE, ()), ((), X), ((), ())))
        for row in range(3):
            for wrong in [(ONE, ONE), ((), ()), (X, X)]:
                rows = form[1][:row] + (wrong,) + form[1][row + 1:]
                if rows != form[1]:
                    self.refused("middle", row, (2, rows), ("prounds", form, three, three, two, two))
        self.refused("middle", 1, self.TABLE, self.changed(1, (2, ((ONE, ()), ((), XX)))))
        self.refused("middle", 0, self.TABLE, self.changed(1, (2, ((X, ()), ((), poly(0, 0, 0, 1))))))
        self.refused("middle", 0, (2, ((ONE, ONE), (X, poly(0, 0, 1, 1)))), self.PAPER)
        # Left and right stand on their own sides.
        self.refused("middle", 0, self.TABLE, self.PAPER[:2] + self.PAPER[4:] + self.PAPER[2:4])

    def test_left_and_right_alone(self):
        three, two = plain_punit(3), plain_punit(2)
        tall, flat = (2, (((), ()),) * 3), (3, (((), (), ()),) * 2)
        for row in range(3):
            for column in range(3):
                for wrong in [X, poly(2), poly(-1), (), poly(1, 1), ONE]:
                    if three[1][row][column] == wrong:
                        continue
                    rows = [list(other) for other in three[1]]
                    rows[row][column] = wrong
                    other = (3, tuple(tuple(other) for other in rows))
                    self.refused("left", row, tall, ("prounds", tall, three, other, two, two))
                    self.refused("left", row, tall, ("prounds", tall, other, three, two, two))
                    self.refused("right", row, flat, ("prounds", flat, two, two, three, other))
                    self.refused("right", row, flat, ("prounds", flat, two, two, other, three))
        self.refused("left", 1, self.TABLE, self.changed(3, self.LEFT))
        self.refused("right", 0, self.TABLE, self.changed(5, self.RIGHT))

    def test_of_two_faults_the_first_goes(self):
        word, form, left, left_back, right, right_back = self.PAPER
        no_form, other_form, no_back = (2, ((ONE, ()), ((), poly(0, 2)))), (2, ((ONE, ()), ((), ONE))), (2, ((X, X), (X, X)))
        for thing, fault in [
                ((word, no_form, no_back, no_back, no_back, no_back), ("form", 1)),
                ((word, no_form, left, left_back, right, right_back), ("form", 1)),
                ((word, no_form, left, no_back, right, right_back), ("form", 1)),
                ((word, other_form, left, no_back, right, no_back), ("middle", 1)),
                ((word, form, no_back, no_back, right, right_back), ("middle", 0)),
                ((word, form, left, left_back, no_back, no_back), ("middle", 0)),
                ((word, form, left, no_back, right, no_back), ("left", 0)),
                ((word, form, left, left_back, right, no_back), ("right", 0)),
                ((word, no_form, left, no_back, right, (2, ((ONE, ()),))), ("shape", 0)),
                ((word, no_form, no_back, no_back, no_back, None), ("shape", 0))]:
            self.refused(*fault, self.TABLE, thing)
        self.refused("form", 0, self.TABLE, self.changed(1, (2, ((poly(2), ()), (ONE, ())))))

    def test_shape(self):
        for thing in ODD_THINGS + wrong_counts(self.PAPER) + wrong_kinds(self.PAPER) + [list(self.PAPER)]:
            self.refused("shape", 0, self.TABLE, thing)
        for word in ["", "Prounds", "rounds", "psteps", None, 1, ("prounds",), ["prounds"]]:
            self.refused("shape", 0, self.TABLE, self.changed(0, word))
        for place in range(1, 6):
            for part in [(2, ((ONE, ()),)), (2, ((ONE, ()), ((), ONE), ((), ()))), (3, ((ONE, (), ()), ((), ONE, ()))), plain_punit(1),
                         plain_punit(3), (1, ((ONE,), ((),))), (0, ()), (2, ()), (2, ((ONE, ()), ((), ((True, 1),)))), None, self.PAPER,
                         (2, ((ONE, ()), ((), ((2, 2),)))), (2, ((ONE, ()), ((), ((1, 1), (0, 1))))), (2, ((1, 0), (0, 1)))]:
                self.refused("shape", 0, self.TABLE, self.changed(place, part))

    def test_shape_of_other_sizes(self):
        table, two, three = (3, ((ONE, (), ()), ((), ONE, ()))), plain_punit(2), plain_punit(3)
        self.assertTold(True, lets_prounds, table, ("prounds", table, two, two, three, three))
        for parts in [(table, three, three, two, two), (table, two, two, two, two), (table, three, three, three, three),
                      (table, two, three, three, three), (table, three, two, three, three), (table, two, two, three, two),
                      (table, two, two, two, three), (two, two, two, three, three), (three, two, two, three, three)]:
            self.refused("shape", 0, table, ("prounds",) + parts)


class LetBy(Case):
    def test_what_is_let_by_is_so(self):
        dice = random.Random(82)
        things = [(), ONE, X, ONE, poly(-1), ()]
        let = 0
        for _ in range(8000):
            many, wide = dice.choice([(1, 1), (1, 1), (1, 1), (1, 2), (2, 1)])
            table, form, left, left_back, right, right_back = (
                (w, tuple(tuple(dice.choice(things) for _ in range(w)) for _ in range(m)))
                for m, w in [(many, wide), (many, wide), (many, many), (many, many), (wide, wide), (wide, wide)])
            so = (plain_rounds_row(form) is None and plain_ptimes(left, left_back) == plain_punit(many)
                  and plain_ptimes(right, right_back) == plain_punit(wide)
                  and plain_ptimes(plain_ptimes(left, table), right) == form)
            try:
                told = lets_prounds(table, ("prounds", form, left, left_back, right, right_back))
            except NoPaper:
                told = False
            self.assertSame(told, so)
            let += so
        self.assertGreater(let, 8)


if __name__ == "__main__":
    unittest.main()
