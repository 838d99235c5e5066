"""Promise 65."""

import itertools
import random
import unittest

from stepforms.leaving import classes_of
from stepforms.places import place_of, place_sum, point_at
from stepforms.points import rest_of
from stepforms.roundchecker import lets_rounds
from stepforms.rounding import rounds_paper
from tests.helper import VERY_LONG, Case, lattice_point, less, nought, plain_times, plus, point_by, wide_tables_by
from tests.test_roundchecker import papers_by


def tables_and_papers(seed, count):
    """Tables with told papers, and with papers that strangers wrote."""
    for table in wide_tables_by(seed, count, 99):
        yield table, rounds_paper(table)
    for table, paper in papers_by(seed, count):
        if table[0] > 0:
            yield table, paper


class Known(Case):
    # The numbers on the way down are 2 and none for the third column, and 0 for the second.
    TABLE = (3, ((2, 0, 0), (0, 0, 0)))
    ONE = (3, ((1, 0, 0), (0, 1, 0), (0, 0, 1)))
    PAPER = ("rounds", TABLE, (2, ((1, 0), (0, 1))), (2, ((1, 0), (0, 1))), ONE, ONE)
    # Led by the third column put to the first, and to be led back.
    LED = ("rounds", TABLE, (2, ((1, 0), (0, 1))), (2, ((1, 0), (0, 1))), (3, ((1, 0, 0), (0, 1, 0), (1, 0, 1))),
           (3, ((1, 0, 0), (0, 1, 0), (-1, 0, 1))))

    def test_places(self):
        self.assertTold((1, 5, -7), place_of, self.PAPER, (-3, 5, -7))
        self.assertTold((0, 0, 0), place_of, self.PAPER, (98, 0, 0))
        self.assertTold((0, 5, -7), place_of, self.LED, (-3, 5, -7))
        self.assertTold((1, 0, 99), place_of, self.LED, (0, 0, 99))

    def test_sums(self):
        self.assertTold((0, 4, -9), place_sum, self.PAPER, (1, 5, -7), (1, -1, -2))
        self.assertTold((1, 0, 0), place_sum, self.PAPER, (1, 5, -7), (0, -5, 7))
        self.assertTold((1, VERY_LONG, 0), place_sum, self.PAPER, (1, VERY_LONG, 0), (0, 0, 0))

    def test_points(self):
        self.assertTold((1, 5, -7), point_at, self.PAPER, (1, 5, -7))
        self.assertTold((8, 5, -7), point_at, self.LED, (1, 5, -7))

    def test_a_table_without_rows(self):
        paper = rounds_paper((2, ()))
        for point in [(0, 0), (-99, 99), (5, 0)]:
            place = place_of(paper, point)
            self.assertSame(point_at(paper, place), point)
            self.assertSame(place_sum(paper, place, place), tuple(2 * number for number in place))

    def test_a_table_that_leaves_nothing(self):
        paper = rounds_paper((2, ((2, 3), (3, 5))))
        for point in [(0, 0), (-99, 99), (5, 0)]:
            self.assertTold((0, 0), place_of, paper, point)


class Places(Case):
    def test_by_told_papers_and_by_strangers_papers(self):
        dice = random.Random(65)
        for table, paper in tables_and_papers(65, 150):
            wide = table[0]
            self.assertSame(lets_rounds(table, paper), True)
            downs = [paper[1][1][k][k] if k < len(table[1]) else 0 for k in range(wide)]
            point = point_by(dice, wide, 99)
            place = place_of(paper, point)
            self.assertTold(place, place_of, paper, point)
            led = plain_times((wide, (point,)), paper[4])[1][0]
            for k, down in enumerate(downs):
                self.assertSame(place[k], led[k] % down if down > 0 else led[k])
                self.assertTrue(down == 0 or 0 <= place[k] < down)

    def test_one_place_just_for_points_of_one_class(self):
        dice = random.Random(66)
        seen = []
        for table, paper in tables_and_papers(66, 150):
            one, other = point_by(dice, table[0], 5), point_by(dice, table[0], 5)
            for behind in (other, plus(one, lattice_point(dice, table)[0])):
                alike = nought(rest_of(table, less(one, behind)))
                self.assertSame(place_of(paper, one) == place_of(paper, behind), alike)
                seen.append(alike)
        self.assertGreater(seen.count(False), 50)
        self.assertGreater(seen.count(True), 300)

    def test_places_of_sums_are_sums_of_places(self):
        dice = random.Random(67)
        for table, paper in tables_and_papers(67, 150):
            one, other = point_by(dice, table[0], 99), point_by(dice, table[0], 99)
            summed = place_sum(paper, place_of(paper, one), place_of(paper, other))
            self.assertTold(place_of(paper, plus(one, other)), place_of, paper, plus(one, other))
            self.assertSame(summed, place_of(paper, plus(one, other)))
            self.assertTold(summed, place_sum, paper, place_of(paper, other), place_of(paper, one))

    def test_a_point_at_a_place_has_it(self):
        dice = random.Random(68)
        for table, paper in tables_and_papers(68, 150):
            point = point_by(dice, table[0], 99)
            place = place_of(paper, point)
            found = point_at(paper, place)
            self.assertTold(found, point_at, paper, place)
            self.assertSame(found, plain_times((table[0], (place,)), paper[5])[1][0])
            self.assertSame(place_of(paper, found), place)
            self.assertTrue(nought(rest_of(table, less(found, point))))

    def test_as_many_places_as_classes(self):
        for table in [(1, ((6,),)), (2, ((2, 0), (0, 3))), (2, ((2, 1), (0, 4))), (2, ((2, 0), (0, 2))), (2, ((1, 2), (3, 4)))]:
            paper = rounds_paper(table)
            places = {place_of(paper, point) for point in itertools.product(range(12), repeat=table[0])}
            self.assertSame(len(places), classes_of(table))
            for place in places:
                self.assertSame(place_of(paper, point_at(paper, place)), place)


if __name__ == "__main__":
    unittest.main()
