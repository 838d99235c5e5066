"""Promise 85 (and 2 and 7 of it)."""

import itertools
import random
import unittest

from stepforms.characters import character_of
from stepforms.errors import NoPaper
from stepforms.prounding import prounds_of, prounds_paper
from stepforms.twinchecker import lets_twins
from tests.helper import (
    ODD_THINGS, VERY_LONG, Case, plain_ptimes, plain_punit, poly, table_by, wrong_counts, wrong_kinds)

ONE = poly(1)
X = poly(0, 1)
UNIT = plain_punit(2)
TABLE = (2, ((1, 2), (3, 4)))
OTHER = (2, ((4, 3), (2, 1)))
SWAP = (2, (((), ONE), (ONE, ())))
TWINS = ("twins", SWAP, SWAP)
APART = (2, ((1, 2), (3, 5)))
FIRST = prounds_paper(character_of(TABLE))
SECOND = prounds_paper(character_of(APART))
STRANGERS = ("strangers", FIRST, SECOND)


def plain_table(table):
    """The table of numbers as one of POLYS."""
    return (table[0], tuple(tuple(poly(number) for number in row) for row in table[1]))


class Letting(Case):
    def refused(self, word, number, one, other, thing):
        self.assertRefused(NoPaper, {"word": word, "number": number}, lets_twins, one, other, thing)

    def changed(self, place, part):
        return TWINS[:place] + (part,) + TWINS[place + 1:]


class Twins(Letting):
    def test_right_papers(self):
        self.assertTold(True, lets_twins, TABLE, OTHER, TWINS)
        self.assertTold(True, lets_twins, TABLE, TABLE, ("twins", UNIT, UNIT))
        self.assertTold(True, lets_twins, (1, ((5,),)), (1, ((5,),)), ("twins", plain_punit(1), plain_punit(1)))

    def test_others_than_the_told_ones(self):
        for top, bottom in [(2, 1), (-7, 3), (VERY_LONG, 2), (-1, VERY_LONG)]:
            over, back = ((2, (((), (part,)), ((part,), ()))) for part in [(top, bottom), (bottom if top > 0 else -bottom, abs(top))])
            self.assertTold(True, lets_twins, TABLE, OTHER, ("twins", over, back))
        nought = (2, ((0, 0), (0, 0)))
        for over, back in [((2, ((ONE, poly(9)), ((), ONE))), (2, ((ONE, poly(-9)), ((), ONE)))),
                           ((2, ((((1, 2),), ()), ((), ((-2, 3),)))), (2, ((poly(2), ()), ((), ((-3, 2),)))))]:
            self.assertTold(True, lets_twins, nought, nought, ("twins", over, back))
            self.assertTold(True, lets_twins, (2, ((4, 0), (0, 4))), (2, ((4, 0), (0, 4))), ("twins", over, back))

    def test_over_alone(self):
        # All have their backs, but the first table times over isn't over times the second one.
        for over, back, row in [(UNIT, UNIT, 0), ((2, ((ONE, ONE), ((), ONE))), (2, ((ONE, poly(-1)), ((), ONE))), 0)]:
            self.refused("over", row, TABLE, OTHER, ("twins", over, back))
        self.refused("over", 1, (2, ((1, 0), (0, 2))), (2, ((1, 0), (0, 3))), ("twins", UNIT, UNIT))
        self.refused("over", 0, (2, ((1, 0), (0, 2))), (2, ((2, 0), (0, 3))), ("twins", UNIT, UNIT))
        three = plain_punit(3)
        for row in range(3):
            for column in range(3):
                rows = [[0] * 3 for _ in range(3)]
                rows[row][column] = 1
                table = (3, tuple(tuple(other) for other in rows))
                self.refused("over", row, table, (3, ((0, 0, 0),) * 3), ("twins", three, three))
                self.refused("over", row, (3, ((0, 0, 0),) * 3), table, ("twins", three, three))
        self.refused("over", 1, APART, OTHER, TWINS)

    def test_back_alone(self):
        nought, three = (3, ((0, 0, 0),) * 3), plain_punit(3)
        for row in range(3):
            for column in range(3):
                for wrong in [poly(2), poly(-1), (), ONE, ((1, 3),)]:
                    if three[1][row][column] == wrong:
                        continue
                    rows = [list(other) for other in three[1]]
                    rows[row][column] = wrong
                    other = (3, tuple(tuple(other) for other in rows))
                    self.refused("back", row, nought, nought, ("twins", three, other))
                    self.refused("back", row, nought, nought, ("twins", other, three))
        self.refused("back", 0, TABLE, OTHER, self.changed(2, UNIT))
        self.refused("back", 0, TABLE, TABLE, ("twins", (2, (((), ()), ((), ()))), UNIT))

    def test_plain(self):
        # Of DEGREE 1 within over or back, though all else were right.
        nought = (2, ((0, 0), (0, 0)))
        over, back = (2, ((ONE, X), ((), ONE))), (2, ((ONE, poly(0, -1)), ((), ONE)))
        for paper in [("twins", over, back), ("twins", UNIT, back), ("twins", over, UNIT), ("twins", UNIT, (2, ((ONE, ()), (X, ONE))))]:
            self.refused("shape", 0, nought, nought, paper)
        self.refused("shape", 0, TABLE, OTHER, self.changed(1, (2, (((), poly(1, 1)), (ONE, ())))))

    def test_of_two_faults_the_first_goes(self):
        wrong = (2, ((poly(2), ONE), (ONE, ONE)))
        self.refused("over", 0, TABLE, OTHER, ("twins", UNIT, wrong))
        self.refused("over", 0, TABLE, OTHER, ("twins", wrong, wrong))
        self.refused("back", 0, TABLE, OTHER, ("twins", SWAP, wrong))
        self.refused("shape", 0, TABLE, OTHER, ("twins", UNIT, None))
        self.refused("shape", 0, TABLE, OTHER, ("twins", UNIT, (2, ((X, ()), ((), X)))))

    def test_shape(self):
        for thing in ODD_THINGS + wrong_counts(TWINS) + wrong_kinds(TWINS) + [list(TWINS), FIRST, SECOND, (FIRST, SECOND)]:
            self.refused("shape", 0, TABLE, OTHER, thing)
        for word in ["", "Twins", "twin", "prounds", None, 1, ("twins",), ["twins"]]:
            self.refused("shape", 0, TABLE, OTHER, self.changed(0, word))
        for place in (1, 2):
            for part in [(2, ((ONE, ()),)), (2, ((ONE, ()), ((), ONE), ((), ()))), (3, ((ONE, (), ()), ((), ONE, ()))), plain_punit(1),
                         plain_punit(3), (1, ((ONE,), ((),))), (0, ()), (2, ()), (2, ((ONE, ()), ((), ((True, 1),)))), None, TWINS,
                         (2, ((ONE, ()), ((), ((2, 2),)))), (2, ((ONE, ()), ((), ((0, 1),)))), TABLE, (2, ((1, 0), (0, 1)))]:
                self.refused("shape", 0, TABLE, OTHER, self.changed(place, part))


class Strangers(Letting):
    def test_right_papers(self):
        self.assertTold(True, lets_twins, TABLE, APART, STRANGERS)
        self.assertTold(True, lets_twins, APART, TABLE, ("strangers", SECOND, FIRST))
        # Others than the told one: a row turned and back again, from the left.
        word, form, left, left_back, right, right_back = FIRST
        turned = (2, ((poly(-1), ()), ((), ONE)))
        other = (word, form, plain_ptimes(turned, left), plain_ptimes(left_back, turned), plain_ptimes(right, turned),
                 plain_ptimes(turned, right_back))
        self.assertTold(True, lets_twins, TABLE, APART, ("strangers", other, SECOND))

    def test_one_corner_but_strangers(self):
        one, other = (2, ((3, 0), (0, 3))), (2, ((3, 1), (0, 3)))
        paper = ("strangers", prounds_paper(character_of(one)), prounds_paper(character_of(other)))
        self.assertTold(True, lets_twins, one, other, paper)

    def test_one_alone(self):
        for first in ODD_THINGS + wrong_kinds(FIRST) + wrong_counts(FIRST) + [SECOND, STRANGERS, TWINS, list(FIRST)]:
            self.refused("one", 0, TABLE, APART, ("strangers", first, SECOND))
        for place, part in [(1, SECOND[1]), (2, UNIT), (3, UNIT), (4, (2, ((X, ()), ((), X)))), (5, (2, ((X, ()), ((), X))))]:
            self.refused("one", 0, TABLE, APART, ("strangers", FIRST[:place] + (part,) + FIRST[place + 1:], SECOND))
        # Of the table itself, not of its CHARACTER.
        self.refused("one", 0, TABLE, APART, ("strangers", prounds_paper(plain_table(TABLE)), SECOND))

    def test_other_alone(self):
        for second in ODD_THINGS + wrong_kinds(SECOND) + wrong_counts(SECOND) + [FIRST, STRANGERS, TWINS, list(SECOND)]:
            self.refused("other", 0, TABLE, APART, ("strangers", FIRST, second))

    def test_forms_alone(self):
        self.refused("forms", 0, TABLE, TABLE, ("strangers", FIRST, FIRST))
        self.refused("forms", 0, TABLE, OTHER, ("strangers", FIRST, prounds_paper(character_of(OTHER))))

    def test_of_two_faults_the_first_goes(self):
        for odd in ODD_THINGS:
            self.refused("one", 0, TABLE, APART, ("strangers", odd, odd))
            self.refused("one", 0, TABLE, TABLE, ("strangers", odd, FIRST))
            self.refused("other", 0, TABLE, TABLE, ("strangers", FIRST, odd))

    def test_shape(self):
        for thing in [list(STRANGERS), STRANGERS[:2], STRANGERS + (0,), ("Strangers",) + STRANGERS[1:], ("twins",) + STRANGERS[1:],
                      ("strangers",), (FIRST, "strangers", SECOND), ("unequal",) + STRANGERS[1:]]:
            self.refused("shape", 0, TABLE, APART, thing)


class LetBy(Case):
    def test_what_is_let_by_is_so(self):
        # All tables and papers of such small numbers, of one row; of two rows by the dice.
        dice = random.Random(85)
        let = {"twins": 0, "strangers": 0}
        cases = [((1, ((a,),)), (1, ((b,),)), (1, ((poly(c),),)), (1, ((poly(d),),)))
                 for a, b, c, d in itertools.product((-1, 0, 1), repeat=4)]
        for _ in range(1500):
            one, other, over, back = (table_by(dice, 2, 2, 1) for _ in range(4))
            if dice.random() < 0.5:
                other, back = one, over
            cases.append((one, other, plain_table(over), plain_table(back)))
        for one, other, over, back in cases:
            right = (plain_ptimes(plain_table(one), over) == plain_ptimes(over, plain_table(other))
                     and plain_ptimes(over, back) == plain_punit(one[0]))
            unlike = prounds_of(character_of(one)) != prounds_of(character_of(other))
            self.assertFalse(right and unlike)
            papers = [(("twins", over, back), right),
                      (("strangers", prounds_paper(character_of(one)), prounds_paper(character_of(other))), unlike)]
            for paper, so in papers:
                try:
                    told = lets_twins(one, other, paper)
                except NoPaper:
                    told = False
                self.assertSame(told, so)
                let[paper[0]] += told
        self.assertGreater(min(let.values()), 10)


if __name__ == "__main__":
    unittest.main()
