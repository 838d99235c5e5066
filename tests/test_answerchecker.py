"""Promises 43 and 44 (and 2 and 7 of them)."""

import itertools
import random
import unittest

from stepforms.answerchecker import answer_at, free_rows, lets_answers, numbers_of
from stepforms.answers import answers_paper
from stepforms.deeds import deeds_table, led_back
from stepforms.errors import NoPaper
from stepforms.stepping import rank_of
from stepforms.tables import times
from tests.helper import (
    ODD_THINGS, VERY_LONG, Case, lattice_point, plain_times, plain_unit, plus, point_by, same, wide_tables_by,
    wrong_counts, wrong_kinds)

TABLE = (1, ((2,), (3,)))
POINT = (7,)
FORM, THERE, BACK = (1, ((1,), (0,))), (2, ((-1, 1), (3, -2))), (2, ((2, 1), (3, 1)))
PAPER = ("answers", (2, 1), FORM, THERE, BACK)

EVEN = (2, ((2, 0), (1, 3)))
OUT = ("out", ((1, 2), (1, 6)))


def strangers_paper(dice, table, point, paper):
    """Another right paper: another answer, other free rows, and other rows of there put to each of its rows."""
    word, one, form, there, back = paper
    many, rank = len(table[1]), rank_of(table)
    deeds = []
    for _ in range(6 if many > rank else 0):
        j = dice.randrange(rank, many)
        i = dice.randrange(many)
        deeds.append(("add", i, j, dice.randint(-9, 9)) if i != j else ("turn", j))
    for row in there[1][rank:]:
        k = dice.randint(-9, 9)
        one = plus(one, tuple(k * n for n in row))
    deeds = tuple(deeds)
    there, back = times(deeds_table(many, deeds), there), times(back, deeds_table(many, led_back(deeds)))
    return ("answers", one, form, there, back)


class Letting(Case):
    def refused(self, word, number, table, point, thing):
        self.assertRefused(NoPaper, {"word": word, "number": number}, lets_answers, table, point, thing)


class Right(Letting):
    def test_answers(self):
        self.assertTold(True, lets_answers, TABLE, POINT, PAPER)
        for k in (1, -5, VERY_LONG):
            self.assertTold(True, lets_answers, TABLE, POINT, ("answers", (2 + 3 * k, 1 - 2 * k), FORM, THERE, BACK))
        self.assertTold(True, lets_answers, TABLE, POINT,
                        ("answers", (2, 1), FORM, (2, ((2, -1), (-3, 2))), (2, ((2, 1), (3, 2)))))

    def test_out(self):
        self.assertTold(True, lets_answers, EVEN, (0, 3), OUT)
        self.assertTold(True, lets_answers, EVEN, (0, 3), ("out", ((-3, 2), (-1, 6))))
        self.assertTold(True, lets_answers, (2, ()), (0, 3), ("out", ((0, 1), (1, 2))))

    def test_tables_without_rows_and_nought_rows(self):
        self.assertTold(True, lets_answers, (2, ()), (0, 0), ("answers", (), (2, ()), (0, ()), (0, ())))
        noughts = (2, ((0, 0), (0, 0)))
        for there, back in [(plain_unit(2), plain_unit(2)), ((2, ((1, 5), (0, 1))), (2, ((1, -5), (0, 1))))]:
            self.assertTold(True, lets_answers, noughts, (0, 0), ("answers", (8, -9), noughts, there, back))

    def test_papers_that_strangers_wrote(self):
        dice = random.Random(43)
        for table in wide_tables_by(43, 100, 99):
            point = lattice_point(dice, table)[0]
            paper = answers_paper(table, point)
            self.assertTold(True, lets_answers, table, point, strangers_paper(dice, table, point, paper))


class Wrong(Letting):
    def test_sum_alone(self):
        for one, point in [((2, 2), POINT), ((1, 1), POINT), ((2, 1), (8,)), ((0, 0), POINT), ((VERY_LONG, 1), POINT)]:
            self.refused("sum", 0, TABLE, point, ("answers", one, FORM, THERE, BACK))
        paper = ("answers", (2, 1), (2, ((1, 3), (0, 6))), (2, ((0, 1), (-1, 2))), (2, ((2, -1), (1, 0))))
        self.assertTold(True, lets_answers, EVEN, (5, 3), paper)
        self.refused("sum", 0, EVEN, (6, 3), paper)
        self.refused("sum", 1, EVEN, (5, 4), paper)
        self.refused("sum", 0, EVEN, (6, 4), paper)
        self.refused("sum", 1, (2, ()), (0, 3), ("answers", (), (2, ()), (0, ()), (0, ())))

    def test_form_alone(self):
        one = plain_unit(2)
        for rows, k in [(((0, 0), (1, 0)), 1), (((-1, 0), (0, 1)), 0), (((1, 0), (0, -1)), 1), (((3, 2), (0, 2)), 1)]:
            self.refused("form", k, (2, rows), rows[0], ("answers", (1, 0), (2, rows), one, one))

    def test_there_alone(self):
        self.refused("there", 0, TABLE, POINT, ("answers", (2, 1), FORM, (2, ((1, -1), (3, -2))), (2, ((-2, 1), (-3, 1)))))
        self.refused("there", 1, TABLE, POINT, ("answers", (2, 1), FORM, (2, ((-1, 1), (2, -1))), (2, ((1, 1), (2, 1)))))
        self.refused("there", 0, TABLE, POINT, ("answers", (2, 1), (1, ((2,), (0,))), THERE, BACK))

    def test_back_alone(self):
        self.refused("back", 0, TABLE, POINT, ("answers", (2, 1), FORM, THERE, THERE))
        self.refused("back", 1, TABLE, POINT, ("answers", (2, 1), FORM, (2, ((-1, 1), (6, -4))), BACK))
        self.refused("back", 1, TABLE, POINT, ("answers", (2, 1), FORM, (2, ((-1, 1), (0, 0))), BACK))

    def test_shape(self):
        for thing in ODD_THINGS + wrong_counts(PAPER) + wrong_kinds(PAPER) + [list(PAPER), ("steps", FORM, THERE, BACK)]:
            self.refused("shape", 0, TABLE, POINT, thing)
        for word in ["", "Answers", "answer", "steps", "out", "in", None, 1, ("answers",), ["answers"]]:
            self.refused("shape", 0, TABLE, POINT, (word,) + PAPER[1:])
        for one in [(), (2,), (2, 1, 0), [2, 1], (2, True), (2, None), None, 2, ((2, 1),), "21"]:
            self.refused("shape", 0, TABLE, POINT, ("answers", one, FORM, THERE, BACK))
        self.refused("shape", 0, TABLE, POINT, ("in", (2, 1)))
        self.refused("shape", 0, TABLE, POINT, ("answers", (2, 1), ("steps", FORM, THERE, BACK)))

    def test_shape_of_form_there_and_back_as_the_steps_checker_tells(self):
        for wrong in [(1, ((1,),)), (2, ((1, 0), (0, 0))), (1, ((1,), (0,), (0,))), (1, ((1,), [0])), (1, [(1,), (0,)]), None, ()]:
            self.refused("shape", 0, TABLE, POINT, ("answers", (2, 1), wrong, THERE, BACK))
        for wrong in [(2, ((-1, 1),)), (3, ((-1, 1, 0), (3, -2, 0))), plain_unit(3), (2, ((-1, 1), (3, "a"))), [], 0]:
            self.refused("shape", 0, TABLE, POINT, ("answers", (2, 1), FORM, wrong, BACK))
            self.refused("shape", 0, TABLE, POINT, ("answers", (2, 1), FORM, THERE, wrong))

    def test_of_two_faults_the_first_goes(self):
        bad_form, bad_there, bad_back = (1, ((-1,), (0,))), (2, ((0, 0), (0, 0))), (2, ((0, 0), (0, 0)))
        self.refused("sum", 0, TABLE, POINT, ("answers", (1, 1), bad_form, bad_there, bad_back))
        # The looks at form, there and back, even at their shapes, come behind the sum.
        for odd in ODD_THINGS:
            self.refused("sum", 0, TABLE, POINT, ("answers", (1, 1), odd, THERE, BACK))
            self.refused("sum", 0, TABLE, POINT, ("answers", (1, 1), FORM, odd, odd))
        self.refused("shape", 0, TABLE, POINT, ("answers", (1, 1, 1), bad_form, bad_there, bad_back))
        self.refused("shape", 0, TABLE, POINT, ("answers", (2, 1), bad_form, bad_there, None))
        self.refused("form", 0, TABLE, POINT, ("answers", (2, 1), bad_form, bad_there, bad_back))
        self.refused("there", 0, TABLE, POINT, ("answers", (2, 1), FORM, bad_there, bad_back))
        self.refused("back", 0, TABLE, POINT, ("answers", (2, 1), FORM, THERE, bad_back))

    def test_out_is_judged_as_a_point_paper(self):
        self.refused("part", 1, EVEN, (0, 3), ("out", ((1, 2), (0, 1))))
        self.refused("part", 0, EVEN, (0, 3), ("out", ((1, 3), (1, 2))))
        self.refused("whole", 0, EVEN, (5, 3), OUT)
        for thing in wrong_kinds(OUT) + wrong_counts(OUT) + [("out", ()), ("out", None), ("out", PAPER), ("out", ((2, 4), (1, 6)))]:
            self.refused("shape", 0, EVEN, (0, 3), thing)
        self.refused("shape", 0, TABLE, POINT, ("out",) + PAPER[1:])


class AllAnswers(Case):
    def test_known_ones(self):
        self.assertTold((2, ((3, -2),)), free_rows, PAPER)
        self.assertTold((2, 1), answer_at, PAPER, (0,))
        self.assertTold((-4, 5), answer_at, PAPER, (-2,))
        self.assertTold((2 + 3 * VERY_LONG, 1 - 2 * VERY_LONG), answer_at, PAPER, (VERY_LONG,))
        self.assertTold((0,), numbers_of, PAPER, (2, 1))
        self.assertTold((-2,), numbers_of, PAPER, (-4, 5))
        self.assertTold(None, numbers_of, PAPER, (2, 2))
        self.assertTold(None, numbers_of, PAPER, (0, 0))

    def test_no_free_rows(self):
        paper = ("answers", (5,), (1, ((2,),)), (1, ((1,),)), (1, ((1,),)))
        self.assertTold((1, ()), free_rows, paper)
        self.assertTold((5,), answer_at, paper, ())
        self.assertTold((), numbers_of, paper, (5,))
        self.assertTold(None, numbers_of, paper, (6,))

    def test_no_rows_at_all(self):
        paper = ("answers", (), (3, ()), (0, ()), (0, ()))
        self.assertTold((0, ()), free_rows, paper)
        self.assertTold((), answer_at, paper, ())
        self.assertTold((), numbers_of, paper, ())

    def test_nought_rows_alone(self):
        noughts = (1, ((0,), (0,)))
        paper = ("answers", (8, -9), noughts, (2, ((1, 5), (0, 1))), (2, ((1, -5), (0, 1))))
        self.assertTold((2, ((1, 5), (0, 1))), free_rows, paper)
        self.assertTold((10, 4), answer_at, paper, (2, 3))
        self.assertTold((2, 3), numbers_of, paper, (10, 4))

    def papers(self, seed, count):
        dice = random.Random(seed)
        for table in wide_tables_by(seed, count, 99):
            point = lattice_point(dice, table)[0]
            paper = answers_paper(table, point)
            yield table, point, paper
            yield table, point, strangers_paper(dice, table, point, paper)

    def test_every_row_of_numbers_makes_an_answer(self):
        dice = random.Random(45)
        for table, point, paper in self.papers(44, 120):
            many = len(table[1])
            free = free_rows(paper)
            self.assertTold(free, free_rows, paper)
            self.assertSame(free, (many, paper[3][1][rank_of(table):]))
            self.assertSame(len(free[1]), many - rank_of(table))
            for _ in range(4):
                numbers = point_by(dice, len(free[1]), 50)
                answer = answer_at(paper, numbers)
                self.assertTold(answer, answer_at, paper, numbers)
                self.assertSame(plain_times((many, (answer,)), table), (table[0], (point,)))
                self.assertTold(numbers, numbers_of, paper, answer)

    def test_rows_that_are_no_answers(self):
        dice = random.Random(46)
        seen = []
        for table, point, paper in self.papers(46, 150):
            many = len(table[1])
            for most in (1, 1, 99):
                row = plus(paper[1], point_by(dice, many, most))
                right = plain_times((many, (row,)), table)[1][0] == point
                numbers = numbers_of(paper, row)
                self.assertTold(numbers, numbers_of, paper, row)
                self.assertSame(numbers is not None, right)
                if right:
                    self.assertSame(answer_at(paper, numbers), row)
                seen.append(right)
        self.assertGreater(seen.count(True), 50)
        self.assertGreater(seen.count(False), 50)

    def test_each_answer_once(self):
        # All small rows: just the answers among them are made, each by one row of numbers.
        table, point = (1, ((2,), (3,), (-1,))), (1,)
        paper = answers_paper(table, point)
        found = {}
        for row in itertools.product(range(-4, 5), repeat=3):
            numbers = numbers_of(paper, row)
            right = 2 * row[0] + 3 * row[1] - row[2] == 1
            self.assertSame(numbers is not None, right)
            if right:
                self.assertTrue(same(answer_at(paper, numbers), row))
                found[numbers] = row
        self.assertEqual(len(set(found.values())), len(found))
        self.assertGreater(len(found), 20)


if __name__ == "__main__":
    unittest.main()
