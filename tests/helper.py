"""What the tests share: things of all kinds, tables by seeds, and plain ways to look at answers."""

import copy
import random
import unittest

VERY_LONG = 10 ** 3999 + 7

# Things that are no fraction, no row, no table, no deeds, no paper.
ODD_THINGS = [
    None, True, False, 0, 1, -1, VERY_LONG, "", "steps", "swap 0 1", [], [1], [[]], ((),), ((), ()), ("",),
    (None,), (True,), (True, False), (1,), ("a", "b"), [1, 2], [(1, 2)], ((1, 2),), (1, 2, 3), (1, 2, 3, 4),
    (None, None), ("steps", 1, 2, 3), ((((((),),),),),),
]


def same(one, other):
    """Tell whether two things are the same, kinds at any depth included."""
    if type(one) is not type(other):
        return False
    if isinstance(one, (tuple, list)):
        return len(one) == len(other) and all(same(a, b) for a, b in zip(one, other))
    return one == other


def table_by(dice, many, wide, most=9):
    """A table of so many rows, so wide, with numbers up to most, by the dice."""
    return (wide, tuple(tuple(dice.randint(-most, most) for _ in range(wide)) for _ in range(many)))


def tables_by(seed, count, most=9):
    """Tables of none to four rows, none to four wide: ordinary ones, thin ones and ones with rows on one line."""
    dice = random.Random(seed)
    found = []
    for _ in range(count):
        many, wide = dice.randint(0, 4), dice.randint(0, 4)
        wide, rows = table_by(dice, many, wide, dice.choice([1, 2, most]))
        rows = list(rows)
        if many > 1 and dice.random() < 0.4:
            times = dice.randint(-2, 2)
            rows[dice.randrange(many)] = tuple(times * n for n in rows[dice.randrange(many)])
        found.append((wide, tuple(rows)))
    return found


def deeds_by(dice, many, count, most=9):
    """So many deeds for so many rows, by the dice."""
    found = []
    for _ in range(count if many > 0 else 0):
        sort = dice.choice(["swap", "turn", "add"]) if many > 1 else "turn"
        if sort == "turn":
            found.append(("turn", dice.randrange(many)))
            continue
        i, j = dice.sample(range(many), 2)
        found.append((sort, i, j) if sort == "swap" else (sort, i, j, dice.randint(-most, most)))
    return tuple(found)


def plain_times(one, other):
    """One table times another, by the document's words."""
    rows = []
    for row in one[1]:
        total = [0] * other[0]
        for number, behind in zip(row, other[1]):
            total = [a + number * b for a, b in zip(total, behind)]
        rows.append(tuple(total))
    return (other[0], tuple(rows))


def plain_unit(n):
    return (n, tuple(tuple(int(i == j) for j in range(n)) for i in range(n)))


def plain_corner(rows):
    """The corner of as many rows as columns, by the document's words."""
    if not rows:
        return 1
    return sum((-1) ** at * number * plain_corner([row[:at] + row[at + 1:] for row in rows[1:]])
               for at, number in enumerate(rows[0]))


class Case(unittest.TestCase):
    """A test case that looks at kinds, too, and asks twice."""

    def assertSame(self, told, right):
        if not same(told, right):
            self.fail(f"{told!r} is not {right!r}")

    def assertTold(self, right, call, *things):
        """The call tells what is right, twice, and changes nothing of what it was handed."""
        before = copy.deepcopy(things)
        self.assertSame(call(*things), right)
        self.assertSame(call(*things), right)
        self.assertSame(things, before)

    def assertRefused(self, error, fields, call, *things):
        """The call refuses with just this error and these fields, and changes nothing of what it was handed."""
        before = copy.deepcopy(things)
        with self.assertRaises(error) as caught:
            call(*things)
        self.assertIs(type(caught.exception), error)
        self.assertEqual(set(vars(caught.exception)), set(fields))
        for name in fields:
            self.assertSame(getattr(caught.exception, name), fields[name])
        self.assertSame(things, before)
