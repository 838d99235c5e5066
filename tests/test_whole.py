"""Promises 1, 2 and 5 over the whole program: what checkers let by is so, of contrary papers never both, and just one is told."""

import itertools
import random
import unittest

from stepforms.alikechecker import lets_alike
from stepforms.aliking import alike_paper
from stepforms.answerchecker import lets_answers
from stepforms.answers import answers_paper
from stepforms.deeds import done
from stepforms.equalchecker import lets_equal
from stepforms.equaling import equal_paper
from stepforms.errors import NoPaper
from stepforms.keeper import Keeper
from stepforms.lattices import common_part, form_of, index_of, inside, joined
from stepforms.palikechecker import lets_palike
from stepforms.paliking import palike_paper
from stepforms.pdeeds import pdone
from stepforms.pointchecker import lets_point
from stepforms.points import point_paper, rest_of
from stepforms.proundchecker import lets_prounds
from stepforms.prounding import prounds_of, prounds_paper
from stepforms.pstepchecker import lets_psteps
from stepforms.pstepping import psteps_of, psteps_paper
from stepforms.ptables import pturned_over
from stepforms.roundchecker import lets_rounds
from stepforms.rounding import rounds_of, rounds_paper
from stepforms.shortchecker import lets_short
from stepforms.shorts import short_lengths, short_paper
from stepforms.stepchecker import lets_steps
from stepforms.stepping import steps_of, steps_paper
from stepforms.twinchecker import lets_twins
from stepforms.twinning import twins_paper
from tests.helper import (
    ODD_THINGS, Case, at_each_depth, deeds_by, lattice_point, pdeeds_by, plain_downs, plain_pcorner, plain_shared, plain_times,
    plain_turned, poly, ptables_by, table_by, tables_by, wide_tables_by)
from tests.test_characters import squares_by

ONE = poly(1)
X = poly(0, 1)


def let_by(lets, *things):
    """Whether the checker lets the last of the things by."""
    try:
        return lets(*things)
    except NoPaper:
        return False


def one_more(thing):
    """The number one more."""
    return thing + 1 if type(thing) is int else thing


def pool_of(papers):
    """The papers, and each with one number changed, and odd things."""
    found = list(papers)
    for paper in papers[:6]:
        found += at_each_depth(paper, one_more)
    return list(dict.fromkeys(found)) + ODD_THINGS


class Contrary(Case):
    """Of each pair, all papers of the pool that are let by have the one word that is told."""

    def looked_at(self, pairs, make, lets, words, truth):
        papers = [make(*pair) for pair in pairs]
        pool = pool_of(papers)
        met = dict.fromkeys(words, 0)
        for pair, paper in zip(pairs, papers):
            self.assertTold(True, lets, *pair, paper)
            right = words[0] if truth(*pair) else words[1]
            self.assertSame(paper[0], right)
            for thing in pool:
                if let_by(lets, *pair, thing):
                    self.assertSame(thing[0], right)
                    met[right] += 1
        self.assertGreater(min(met.values()), 5)

    def test_alike_or_apart(self):
        tables = [(1, ((2,),)), (1, ((-2,),)), (1, ((4,),)), (1, ((4,), (6,))), (1, ()), (1, ((0,),)), (1, ((3,),)), (1, ((1,),))]
        self.looked_at(list(itertools.product(tables, repeat=2)), alike_paper, lets_alike, ("alike", "apart"),
                       lambda one, other: form_of(one) == form_of(other))

    def test_in_or_out(self):
        tables = [(2, ((2, 0), (0, 2))), (2, ((1, 1),)), (2, ()), (2, ((1, 2), (3, 4)))]
        pairs = [(table, point) for table in tables for point in itertools.product((-2, 0, 1, 4), repeat=2)]
        for make, lets, words in [(point_paper, lets_point, ("in", "out")), (answers_paper, lets_answers, ("answers", "out"))]:
            self.looked_at(pairs, make, lets, words, lambda table, point: not any(rest_of(table, point)))

    def test_equal_or_unequal(self):
        tables = [(2, ((2, 0), (0, 3))), (2, ((1, 0), (0, 6))), (2, ((1, 2), (3, 4))), (2, ((0, 0), (0, 0))), (2, ((0, 1), (6, 0)))]
        self.looked_at(list(itertools.product(tables, repeat=2)), equal_paper, lets_equal, ("equal", "unequal"),
                       lambda one, other: plain_downs(one) == plain_downs(other))

    def test_palike_or_punlike(self):
        tables = [(1, ((X,),)), (1, ((poly(0, -3),),)), (1, ((ONE,),)), (1, ((poly(0, 0, 1),), (X,))), (1, (((),),)), (1, ()),
                  (1, ((X,), (poly(1, 1),)))]
        self.looked_at(list(itertools.product(tables, repeat=2)), palike_paper, lets_palike, ("palike", "punlike"),
                       lambda one, other: plain_shared([row[0] for row in one[1]]) == plain_shared([row[0] for row in other[1]]))

    def test_twins_or_strangers(self):
        tables = [(2, ((1, 0), (0, 1))), (2, ((1, 1), (0, 1))), (2, ((1, 0), (2, 1))), (2, ((0, 2), (1, 0))), (2, ((0, 1), (2, 0))),
                  (2, ((1, 0), (0, -1))), (2, ((0, 1), (1, 0)))]

        def truth(one, other):
            traces = [table[1][0][0] + table[1][1][1] for table in (one, other)]
            corners = [table[1][0][0] * table[1][1][1] - table[1][0][1] * table[1][1][0] for table in (one, other)]
            # Of two rows: the same sum and corner on both, and both or none a number times the UNIT.
            flat = [table[1][0][1] == table[1][1][0] == 0 and table[1][0][0] == table[1][1][1] for table in (one, other)]
            return traces[0] == traces[1] and corners[0] == corners[1] and flat[0] == flat[1]
        self.looked_at(list(itertools.product(tables, repeat=2)), twins_paper, lets_twins, ("twins", "strangers"), truth)


class OneForm(Case):
    """What is let by as a form is the one that is told, whichever paper of the pool it is."""

    def looked_at(self, tables, make, lets, form):
        papers = [make(table) for table in tables]
        pool = pool_of(papers)
        for table, paper in zip(tables, papers):
            self.assertTold(True, lets, table, paper)
            for thing in pool:
                if let_by(lets, table, thing):
                    self.assertSame(thing[1], form(table))

    def test_steps_and_rounds(self):
        tables = [(2, rows) for rows in itertools.product(itertools.product((0, 1, 2), repeat=2), repeat=2)]
        self.looked_at(tables[::2], steps_paper, lets_steps, steps_of)
        self.looked_at(tables[1::2], rounds_paper, lets_rounds, rounds_of)

    def test_steps_and_rounds_of_polys(self):
        tables = [(2, rows) for rows in itertools.product(itertools.product(((), ONE, X), repeat=2), repeat=2)]
        self.looked_at(tables[::3], psteps_paper, lets_psteps, psteps_of)
        self.looked_at(tables[1::3], prounds_paper, lets_prounds, prounds_of)

    def test_short_rows(self):
        tables = [(2, rows) for rows in itertools.product(itertools.product((0, 1, 3), repeat=2), repeat=2)]
        pool = pool_of([short_paper(table) for table in tables])
        for table in tables:
            self.assertTold(True, lets_short, table, short_paper(table))
            for thing in pool:
                if let_by(lets_short, table, thing):
                    self.assertSame(tuple(sum(n * n for n in row) for row in thing[1][1]), short_lengths(table))


class Makers(Case):
    """The makers tell papers that are let by, of tables of all sizes, and of tables told here."""

    def test_of_tables_of_numbers(self):
        dice = random.Random(1)
        for table in tables_by(1, 120, 99):
            led = done(table, deeds_by(dice, len(table[1]), 4))
            for made in (table, led, steps_of(table), rounds_of(table), plain_turned(table)):
                self.assertSame(lets_steps(made, steps_paper(made)), True)
                self.assertSame(lets_rounds(made, rounds_paper(made)), True)
            self.assertSame(steps_of(led), steps_of(table))
            self.assertSame(alike_paper(table, led)[0], "alike")
            self.assertSame(lets_alike(table, led, alike_paper(table, led)), True)
            self.assertSame(equal_paper(table, led)[0], "equal")
            self.assertSame(lets_equal(table, led, equal_paper(table, led)), True)

    def test_of_points(self):
        dice = random.Random(2)
        for table in wide_tables_by(2, 80, 99):
            for point in [lattice_point(dice, table)[0], tuple(dice.randint(-999, 999) for _ in range(table[0]))]:
                words = point_paper(table, point)[0], answers_paper(table, point)[0]
                self.assertIn(words, [("in", "answers"), ("out", "out")])
                self.assertSame(lets_point(table, point, point_paper(table, point)), True)
                self.assertSame(lets_answers(table, point, answers_paper(table, point)), True)
                self.assertSame(words[0] == "in", not any(rest_of(table, point)))

    def test_of_tables_of_polys(self):
        dice = random.Random(3)
        for table in ptables_by(3, 60):
            led = pdone(table, pdeeds_by(dice, len(table[1]), 3))
            for made in (table, led, psteps_of(table), prounds_of(table), pturned_over(table), psteps_paper(led)[2], prounds_paper(led)[4]):
                self.assertSame(lets_psteps(made, psteps_paper(made)), True)
                self.assertSame(lets_prounds(made, prounds_paper(made)), True)
            self.assertSame(psteps_of(led), psteps_of(table))
            self.assertSame(prounds_of(led), prounds_of(table))
            self.assertSame(palike_paper(table, led)[0], "palike")
            self.assertSame(lets_palike(table, led, palike_paper(table, led)), True)
            for k in range(1, min(table[0], len(table[1])) + 1):
                corners = [plain_pcorner([tuple(row[c] for c in columns) for row in rows]) for rows in itertools.combinations(led[1], k)
                           for columns in itertools.combinations(range(table[0]), k)]
                form = prounds_of(table)
                self.assertSame(plain_pcorner([row[:k] for row in form[1][:k]]), plain_shared(corners))

    def test_of_twins(self):
        for table in squares_by(4, 40):
            for other in (plain_turned(table), steps_of(table)):
                self.assertSame(lets_twins(table, other, twins_paper(table, other)), True)
            self.assertSame(twins_paper(table, plain_turned(table))[0], "twins")

    def test_lattices_within_one_another(self):
        dice = random.Random(5)
        for _ in range(40):
            wide = dice.randint(1, 3)
            third = table_by(dice, wide, wide, 3)
            second = plain_times(table_by(dice, wide, wide, 2), third)
            first = plain_times(table_by(dice, wide, wide, 2), second)
            self.assertTrue(inside(first, second) and inside(second, third) and inside(first, third))
            if 0 not in (index_of(first, second), index_of(second, third)):
                self.assertSame(index_of(first, third), index_of(first, second) * index_of(second, third))
            self.assertSame(joined(first, third), form_of(third))
            self.assertSame(common_part(first, third), form_of(first))

    def test_a_keeper_in_any_order(self):
        dice = random.Random(6)
        for table in wide_tables_by(6, 30):
            wide, rows = table
            keepers = []
            for _ in range(2):
                keeper = Keeper(wide)
                extra = keeper.put((1,) * wide)
                for row in dice.sample(rows, len(rows)):
                    keeper.put(row)
                keeper.out(extra)
                keepers.append(keeper)
            self.assertSame(keepers[0].form_now(), form_of(table))
            self.assertSame(keepers[1].form_now(), form_of(table))


if __name__ == "__main__":
    unittest.main()
