"""Promises 50 and 51 (and 2, 5 and 7 of a keeper)."""

import itertools
import random
import unittest

from stepforms.errors import NoRow
from stepforms.keeper import Keeper
from stepforms.lattices import form_of
from stepforms.pointchecker import lets_point
from stepforms.points import rest_of
from stepforms.stepping import steps_paper
from tests.helper import ODD_THINGS, VERY_LONG, Case, lattice_point, nought, plus, point_by, table_by, wide_tables_by


def keeper_of(table):
    """A keeper in which the table's rows stand."""
    keeper = Keeper(table[0])
    for row in table[1]:
        keeper.put(row)
    return keeper


class Standing(Case):
    def looked_at(self, keeper, wide, standing, points):
        """All that the keeper tells is that of the rows that stand, a dict by their numbers."""
        right = sorted(standing.items())
        table = (wide, tuple(row for number, row in right))
        self.assertSame(keeper.kept(), right)
        self.assertSame(keeper.form_now(), form_of(table))
        for point in points:
            rest = rest_of(table, point)
            self.assertTold(rest, keeper.rest, point)
            self.assertTold(nought(rest), keeper.has, point)
            paper = keeper.paper(point)
            self.assertTold(True, lets_point, table, point, paper)
            self.assertSame(paper[0], "in" if nought(rest) else "out")
        self.assertSame(keeper.kept(), right)

    def test_no_rows(self):
        for wide in (1, 2, 3, 4):
            keeper = Keeper(wide)
            self.looked_at(keeper, wide, {}, [(0,) * wide, (7,) * wide, (-999,) * wide])
            self.assertSame(keeper.form_now(), (wide, ()))
            keeper.out(keeper.put((5,) * wide))
            self.looked_at(keeper, wide, {}, [(0,) * wide, (5,) * wide])
            self.assertSame(keeper.kept(), [])

    def test_in_and_out(self):
        keeper = Keeper(2)
        self.assertSame(keeper.put((2, 0)), 0)
        self.assertSame(keeper.put((1, 3)), 1)
        self.assertSame(keeper.kept(), [(0, (2, 0)), (1, (1, 3))])
        self.assertSame(keeper.form_now(), (2, ((1, 3), (0, 6))))
        self.assertSame(keeper.has((5, 3)), True)
        self.assertSame(keeper.has((0, 3)), False)
        self.assertSame(keeper.rest((0, -3)), (0, 3))
        self.assertSame(keeper.paper((5, 3)), ("in", (2, 1)))
        self.assertSame(keeper.out(0), None)
        self.assertSame(keeper.kept(), [(1, (1, 3))])
        self.assertSame(keeper.has((5, 3)), False)
        self.assertSame(keeper.put((2, 0)), 2)
        self.assertSame(keeper.kept(), [(1, (1, 3)), (2, (2, 0))])
        self.assertSame(keeper.has((5, 3)), True)
        self.assertSame(keeper.paper((5, 3)), ("in", (1, 2)))

    def test_each_number_is_given_once(self):
        keeper = Keeper(1)
        for at in range(40):
            self.assertSame(keeper.put((at,)), at)
            if at % 3 != 0:
                keeper.out(at)
            elif at >= 9:
                keeper.out(at - 9)
        self.assertSame([number for number, row in keeper.kept()], [33, 36, 39])

    def test_the_same_row_twice_and_nought_rows(self):
        keeper = Keeper(2)
        for row in [(0, 0), (3, 6), (3, 6), (0, 0)]:
            keeper.put(row)
        self.looked_at(keeper, 2, {0: (0, 0), 1: (3, 6), 2: (3, 6), 3: (0, 0)}, [(0, 0), (3, 6), (3, 5), (-9, -18)])
        keeper.out(1)
        self.looked_at(keeper, 2, {0: (0, 0), 2: (3, 6), 3: (0, 0)}, [(3, 6)])
        keeper.out(2)
        self.looked_at(keeper, 2, {0: (0, 0), 3: (0, 0)}, [(0, 0), (3, 6)])

    def test_many_orders(self):
        dice = random.Random(50)
        for _ in range(40):
            wide = dice.randint(1, 4)
            keeper, standing, given = Keeper(wide), {}, 0
            for _ in range(25):
                if standing and (len(standing) == 8 or dice.random() < 0.4):
                    number = dice.choice(sorted(standing))
                    del standing[number]
                    self.assertSame(keeper.out(number), None)
                else:
                    row = point_by(dice, wide, dice.choice([1, 9, 99]))
                    self.assertSame(keeper.put(row), given)
                    standing[given] = row
                    given += 1
                self.looked_at(keeper, wide, standing, [point_by(dice, wide), (0,) * wide])

    def test_eight_rows_in_every_order_of_coming(self):
        dice = random.Random(51)
        rows = table_by(dice, 8, 3, 99)[1]
        points = [point_by(dice, 3) for _ in range(5)]
        right = None
        for _ in range(30):
            order = dice.sample(range(8), 8)
            keeper = keeper_of((3, tuple(rows[at] for at in order)))
            told = (keeper.form_now(), [keeper.rest(point) for point in points], [keeper.has(point) for point in points])
            right = right or told
            self.assertSame(told, right)

    def test_whatever_stood_before(self):
        rows = ((2, 4), (0, 3), (5, 5), (-7, 1))
        for chosen in itertools.combinations(range(4), 2):
            for order in itertools.permutations(chosen):
                keeper = keeper_of((2, rows))
                for number in order:
                    keeper.out(number)
                left = {at: rows[at] for at in range(4) if at not in chosen}
                self.looked_at(keeper, 2, left, [(1, 1), (2, 7), (0, 0)])

    def test_rows_told_here_may_be_put(self):
        dice = random.Random(52)
        for table in wide_tables_by(52, 20, 99):
            for told in steps_paper(table)[1:]:
                if told[0] > 0:
                    self.looked_at(keeper_of(told), told[0], dict(enumerate(told[1])), [point_by(dice, told[0])])
        row = (VERY_LONG, -VERY_LONG, 1)
        keeper = keeper_of((3, (row, (0, 0, VERY_LONG))))
        self.looked_at(keeper, 3, {0: row, 1: (0, 0, VERY_LONG)}, [row, plus(row, row), (1, 0, 0)])

    def test_points_of_the_lattice(self):
        dice = random.Random(53)
        for table in wide_tables_by(53, 60, 99, 8):
            keeper = keeper_of(table)
            self.assertTold(True, keeper.has, lattice_point(dice, table)[0])
            for row in table[1]:
                self.assertTold(True, keeper.has, row)
                self.assertTold((0,) * table[0], keeper.rest, row)


class Refused(Case):
    def refused(self, keeper, thing):
        before = keeper.kept(), keeper.form_now()
        with self.assertRaises(NoRow) as caught:
            keeper.out(thing)
        self.assertIs(caught.exception.number, thing)
        self.assertEqual(set(vars(caught.exception)), {"number"})
        self.assertSame((keeper.kept(), keeper.form_now()), before)

    def test_any_thing_that_is_no_number_of_a_row_that_stands(self):
        keeper = keeper_of((2, ((2, 0), (1, 3), (5, 5))))
        keeper.out(1)
        things = [thing for thing in ODD_THINGS if type(thing) is not int] + [
            1, 3, -1, -2, -3, VERY_LONG, -VERY_LONG, True, False, "0", "2", (0,), [0], [2], (2, 0), [[]], {}, (0, (2, 0))]
        for thing in things:
            self.refused(keeper, thing)
        self.assertSame(keeper.put((7, 7)), 3)
        self.assertSame(keeper.kept(), [(0, (2, 0)), (2, (5, 5)), (3, (7, 7))])

    def test_truths_are_no_numbers(self):
        keeper = keeper_of((1, ((4,), (6,))))
        self.refused(keeper, True)
        self.refused(keeper, False)
        self.assertSame(keeper.out(1), None)
        self.refused(keeper, True)
        self.assertSame(keeper.out(0), None)
        self.refused(keeper, False)

    def test_what_was_taken_out_is_out(self):
        keeper = Keeper(1)
        self.refused(keeper, 0)
        self.assertSame(keeper.put((5,)), 0)
        keeper.out(0)
        self.refused(keeper, 0)
        self.assertSame(keeper.put((5,)), 1)
        self.refused(keeper, 0)
        self.assertSame(keeper.kept(), [(1, (5,))])


class Own(Case):
    def test_the_told_list_is_the_askers_own(self):
        keeper = keeper_of((2, ((2, 0), (1, 3))))
        told = keeper.kept()
        told.append((9, (9, 9)))
        told[0] = None
        del told[1]
        self.assertSame(keeper.kept(), [(0, (2, 0)), (1, (1, 3))])
        self.assertSame(keeper.form_now(), (2, ((1, 3), (0, 6))))
        told = keeper.kept()
        keeper.out(0)
        self.assertSame(told, [(0, (2, 0)), (1, (1, 3))])

    def test_two_keepers_know_nothing_of_one_another(self):
        one, other, third = Keeper(2), Keeper(2), Keeper(3)
        self.assertSame(one.put((1, 2)), 0)
        self.assertSame(one.put((3, 4)), 1)
        self.assertSame(other.put((5, 6)), 0)
        self.assertSame(third.put((7, 8, 9)), 0)
        one.out(0)
        self.assertSame(other.kept(), [(0, (5, 6))])
        self.assertSame(third.kept(), [(0, (7, 8, 9))])
        self.assertSame(one.kept(), [(1, (3, 4))])
        with self.assertRaises(NoRow):
            other.out(1)
        self.assertSame(Keeper(2).kept(), [])
        self.assertSame(other.put((1, 1)), 1)

    def test_looks_change_nothing(self):
        keeper = keeper_of((2, ((2, 0), (1, 3))))
        first = [keeper.kept(), keeper.form_now(), keeper.rest((7, 7)), keeper.has((7, 7)), keeper.paper((7, 7))]
        again = [keeper.kept(), keeper.form_now(), keeper.rest((7, 7)), keeper.has((7, 7)), keeper.paper((7, 7))]
        self.assertSame(again[:4], first[:4])
        self.assertTold(True, lets_point, (2, ((2, 0), (1, 3))), (7, 7), again[4])
        self.assertSame(keeper.put((0, 1)), 2)


if __name__ == "__main__":
    unittest.main()
