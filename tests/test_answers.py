"""Promise 45 (and 5 of all whole answers)."""

import random
import unittest

from stepforms.answerchecker import answer_at, free_rows, lets_answers
from stepforms.answers import answers_paper
from stepforms.pointchecker import lets_point
from stepforms.points import rest_of
from stepforms.stepping import steps_paper
from tests.helper import Case, lattice_point, nought, plain_times, point_by, wide_tables_by

KNOWN = [
    ((1, ()), (0,), "answers"),
    ((1, ()), (3,), "out"),
    ((2, ((0, 0), (0, 0))), (0, 0), "answers"),
    ((2, ((0, 0), (0, 0))), (0, -1), "out"),
    ((1, ((2,), (3,))), (7,), "answers"),
    ((1, ((2,), (4,))), (7,), "out"),
    ((2, ((2, 0), (1, 3))), (5, 3), "answers"),
    ((2, ((2, 0), (1, 3))), (0, 3), "out"),
    ((2, ((1, 2), (1, 2))), (999, 1998), "answers"),
    ((2, ((1, 2), (1, 2))), (999, 999), "out"),
]


class Answers(Case):
    def looked_at(self, table, point):
        paper = answers_paper(table, point)
        self.assertTold(True, lets_answers, table, point, paper)
        right = "answers" if nought(rest_of(table, point)) else "out"
        self.assertSame(paper[0], right)
        self.assertSame(len(paper), 5 if right == "answers" else 2)
        if right == "out":
            self.assertTold(True, lets_point, table, point, paper)
        return right

    def test_known_ones(self):
        for table, point, right in KNOWN:
            self.assertSame(self.looked_at(table, point), right)

    def test_points_of_the_lattice_have_answers(self):
        dice = random.Random(45)
        for table in wide_tables_by(45, 150, 99):
            point, numbers = lattice_point(dice, table)
            self.assertSame(self.looked_at(table, point), "answers")
            self.assertSame(self.looked_at(table, (0,) * table[0]), "answers")

    def test_any_points(self):
        dice = random.Random(46)
        words = [self.looked_at(table, point_by(dice, table[0])) for table in wide_tables_by(46, 200, 9)]
        self.assertGreater(words.count("answers"), 10)
        self.assertGreater(words.count("out"), 50)

    def test_what_was_told_may_be_handed_in(self):
        dice = random.Random(47)
        for table in wide_tables_by(47, 30, 99):
            for told in steps_paper(table)[1:]:
                if told[0] > 0:
                    point = lattice_point(dice, told)[0]
                    self.assertSame(self.looked_at(told, point), "answers")
                    paper = answers_paper(told, point)
                    answer = answer_at(paper, (5,) * len(free_rows(paper)[1]))
                    self.assertSame(plain_times((len(told[1]), (answer,)), told)[1][0], point)


if __name__ == "__main__":
    unittest.main()
