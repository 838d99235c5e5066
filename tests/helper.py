"""What the tests share: things of all kinds, tables by seeds, and plain ways to look at answers."""

import copy
import fractions
import itertools
import math
import random
import unittest

VERY_LONG = 10 ** 3999 + 7

# Things that are no fraction, no row, no table, no deeds, no paper.
ODD_THINGS = [
    None, True, False, 0, 1, -1, VERY_LONG, "", "steps", "swap 0 1", (), [], [1], [[]], ((),), ((), ()), ("",),
    (None,), (True,), (True, False), (1,), ("a", "b"), [1, 2], [(1, 2)], ((1, 2),), (1, 2, 3), (1, 2, 3, 4),
    (None, None), ("steps", 1, 2, 3), ((((((),),),),),),
]


def same(one, other):
    """Tell whether two things are the same, kinds at any depth included."""
    if type(one) is not type(other):
        return False
    if isinstance(one, (tuple, list)):
        return len(one) == len(other) and all(same(a, b) for a, b in zip(one, other))
    return one == other


def table_by(dice, many, wide, most=9):
    """A table of so many rows, so wide, with numbers up to most, by the dice."""
    return (wide, tuple(tuple(dice.randint(-most, most) for _ in range(wide)) for _ in range(many)))


def tables_by(seed, count, most=9):
    """Tables of none to four rows, none to four wide: ordinary ones, thin ones and ones with rows on one line."""
    dice = random.Random(seed)
    found = []
    for _ in range(count):
        many, wide = dice.randint(0, 4), dice.randint(0, 4)
        wide, rows = table_by(dice, many, wide, dice.choice([1, 2, most]))
        rows = list(rows)
        if many > 1 and dice.random() < 0.4:
            times = dice.randint(-2, 2)
            rows[dice.randrange(many)] = tuple(times * n for n in rows[dice.randrange(many)])
        found.append((wide, tuple(rows)))
    return found


def wide_tables_by(seed, count, most=9, rows=4):
    """Tables of none to so many rows, 1 to 4 wide, some with NOUGHT rows, with rows twice or on one line."""
    dice = random.Random(seed)
    found = []
    for _ in range(count):
        wide, many = dice.randint(1, 4), dice.randint(0, rows)
        table = list(table_by(dice, many, wide, dice.choice([1, 2, most]))[1])
        for at in range(many):
            if dice.random() < 0.2:
                times = dice.randint(-2, 2)
                table[at] = tuple(times * n for n in table[dice.randrange(many)])
        found.append((wide, tuple(table)))
    return found


def point_by(dice, wide, most=999):
    """A point of so many numbers, by the dice."""
    return tuple(dice.randint(-most, most) for _ in range(wide))


def lattice_point(dice, table, most=9):
    """Some point of the table's lattice, by the dice, with the numbers that make it."""
    numbers = point_by(dice, len(table[1]), most)
    return plain_times((len(numbers), (numbers,)), table)[1][0], numbers


def less(one, other):
    """One row less another."""
    return tuple(a - b for a, b in zip(one, other))


def plus(one, other):
    """One row and another, added."""
    return tuple(a + b for a, b in zip(one, other))


def scaled(row, number):
    return tuple(number * n for n in row)


def nought(row):
    return all(n == 0 for n in row)


def deeds_by(dice, many, count, most=9):
    """So many deeds for so many rows, by the dice."""
    found = []
    for _ in range(count if many > 0 else 0):
        sort = dice.choice(["swap", "turn", "add"]) if many > 1 else "turn"
        if sort == "turn":
            found.append(("turn", dice.randrange(many)))
            continue
        i, j = dice.sample(range(many), 2)
        found.append((sort, i, j) if sort == "swap" else (sort, i, j, dice.randint(-most, most)))
    return tuple(found)


def plain_times(one, other):
    """One table times another, by the document's words."""
    rows = []
    for row in one[1]:
        total = [0] * other[0]
        for number, behind in zip(row, other[1]):
            total = [a + number * b for a, b in zip(total, behind)]
        rows.append(tuple(total))
    return (other[0], tuple(rows))


def plain_unit(n):
    return (n, tuple(tuple(int(i == j) for j in range(n)) for i in range(n)))


def plain_corner(rows):
    """The corner of as many rows as columns, by the document's words."""
    if not rows:
        return 1
    return sum((-1) ** at * number * plain_corner([row[:at] + row[at + 1:] for row in rows[1:]])
               for at, number in enumerate(rows[0]))


def plain_whole(row, parts):
    """Whether the row's numbers times the parts, added, are whole."""
    return sum((n * fractions.Fraction(*part) for n, part in zip(row, parts)), fractions.Fraction(0)).denominator == 1


def plain_turned(table):
    return (len(table[1]), tuple(tuple(row[k] for row in table[1]) for k in range(table[0])))


def plain_downs(table):
    """The numbers on the way down of the table's rounds, by the greatest common divisors of its corners."""
    wide, rows = table
    ahead, downs = 1, []
    for k in range(1, min(wide, len(rows)) + 1):
        shared = math.gcd(*[plain_corner([tuple(row[c] for c in columns) for row in chosen])
                            for chosen in itertools.combinations(rows, k)
                            for columns in itertools.combinations(range(wide), k)])
        downs.append(shared // ahead if shared else 0)
        ahead = shared or 1
    return tuple(downs)


def plain_rounds(wide, many, downs):
    """The table of so many rows, so wide, with these numbers on the way down."""
    return (wide, tuple(tuple(downs[i] if i == j else 0 for j in range(wide)) for i in range(many)))


def poly(*numbers):
    """The POLY of these whole numbers or Fractions."""
    parts = [(fractions.Fraction(number).numerator, fractions.Fraction(number).denominator) for number in numbers]
    while parts and parts[-1] == (0, 1):
        parts.pop()
    return tuple(parts)


def plain(thing):
    """The Fractions of a POLY."""
    return [fractions.Fraction(*part) for part in thing]


def plain_sum(one, other):
    return poly(*[a + b for a, b in itertools.zip_longest(plain(one), plain(other), fillvalue=0)])


def plain_product(one, other):
    found = [fractions.Fraction(0)] * (len(one) + len(other))
    for i, a in enumerate(plain(one)):
        for j, b in enumerate(plain(other)):
            found[i + j] += a * b
    return poly(*found)


def plain_rest(one, other):
    """What is left of the one POLY divided by the other, which isn't ()."""
    rest, other = plain(one), plain(other)
    while len(rest) >= len(other):
        part = rest[-1] / other[-1]
        for at in range(1, len(other) + 1):
            rest[-at] -= part * other[-at]
        rest.pop()
    return poly(*rest)


def plain_shared(polys):
    """The MONIC POLY that all these share, () where all are ()."""
    shared = ()
    for other in polys:
        while other != ():
            shared, other = other, plain_rest(shared, other)
    return poly(*[part / plain(shared)[-1] for part in plain(shared)])


def plain_ptimes(one, other):
    """One table of POLYS times another, by the document's words."""
    rows = []
    for row in one[1]:
        total = [()] * other[0]
        for factor, behind in zip(row, other[1]):
            total = [plain_sum(a, plain_product(factor, b)) for a, b in zip(total, behind)]
        rows.append(tuple(total))
    return (other[0], tuple(rows))


def plain_punit(n):
    return (n, tuple(tuple(poly(int(i == j)) for j in range(n)) for i in range(n)))


def plain_pcorner(rows):
    """The corner of as many rows of POLYS as columns, by the document's words."""
    if not rows:
        return poly(1)
    total = ()
    for at, first in enumerate(rows[0]):
        part = plain_product(first, plain_pcorner([row[:at] + row[at + 1:] for row in rows[1:]]))
        total = plain_sum(total, plain_product(part, poly((-1) ** at)))
    return total


def plain_pdone(table, deeds):
    """A table of POLYS behind PDEEDS, by the document's words."""
    wide, rows = table[0], list(table[1])
    for deed in deeds:
        i = deed[1]
        if deed[0] == "swap":
            rows[i], rows[deed[2]] = rows[deed[2]], rows[i]
        elif deed[0] == "times":
            rows[i] = tuple(plain_product(part, (deed[2],)) for part in rows[i])
        else:
            rows[i] = tuple(plain_sum(part, plain_product(deed[3], more)) for part, more in zip(rows[i], rows[deed[2]]))
    return (wide, tuple(rows))


def poly_by(dice, degree, top, bottom=1):
    """A POLY of at most this degree, by the dice."""
    size = dice.randint(0, degree + 1)
    return poly(*[fractions.Fraction(dice.randint(-top, top), dice.randint(1, bottom)) for _ in range(size)])


def ptable_by(dice, many, wide):
    """A table of so many rows of POLYS, so wide, as great as one that is handed in, by the dice."""
    degree, top, bottom = (1, 3, 1) if many == wide == 3 else (2, 9, 3)
    return (wide, tuple(tuple(poly_by(dice, degree, top, bottom) for _ in range(wide)) for _ in range(many)))


def ptables_by(seed, count):
    """Tables of POLYS of none to three rows, 1 to 3 wide: ordinary ones, some with NOUGHT rows or with rows twice."""
    dice = random.Random(seed)
    found = []
    for _ in range(count):
        wide, rows = ptable_by(dice, dice.randint(0, 3), dice.randint(1, 3))
        rows = list(rows)
        for at in range(len(rows)):
            rows[at] = dice.choice([rows[at], rows[at], rows[at], ((),) * wide, rows[dice.randrange(len(rows))]])
        found.append((wide, tuple(rows)))
    return found


def pdeeds_by(dice, many, count, degree=2, top=9, bottom=3):
    """So many PDEEDS for so many rows, by the dice."""
    found = []
    for _ in range(count if many > 0 else 0):
        sort = dice.choice(["swap", "times", "add", "add"]) if many > 1 else "times"
        if sort == "times":
            factor = fractions.Fraction(dice.choice([-1, 1]) * dice.randint(1, top), dice.randint(1, bottom))
            found.append((sort, dice.randrange(many), (factor.numerator, factor.denominator)))
            continue
        i, j = dice.sample(range(many), 2)
        found.append((sort, i, j) if sort == "swap" else (sort, i, j, poly_by(dice, degree, top, bottom)))
    return tuple(found)


def pways_by(dice, many, count=4, degree=1):
    """A table of POLYS with a BACK, and this, by the dice."""
    there, back = plain_punit(many), plain_punit(many)
    for deed in pdeeds_by(dice, many, count, degree, 3, 2):
        there = plain_pdone(there, (deed,))
        if deed[0] == "times":
            deed = deed[:2] + (poly(1 / fractions.Fraction(*deed[2]))[0],)
        elif deed[0] == "add":
            deed = deed[:3] + (plain_product(deed[3], poly(-1)),)
        back = plain_ptimes(back, plain_pdone(plain_punit(many), (deed,)))
    return there, back


def listed(thing):
    """The thing as a list, where it is a tuple."""
    return list(thing) if isinstance(thing, tuple) else thing


def at_each_depth(thing, change):
    """All copies of the thing with one part, at any depth, changed by the change, where this changes it."""
    found = [] if same(change(thing), thing) else [change(thing)]
    if isinstance(thing, tuple):
        for place, part in enumerate(thing):
            found += [thing[:place] + (other,) + thing[place + 1:] for other in at_each_depth(part, change)]
    return found


def as_truth(thing):
    """True for 1, False for 0."""
    return thing == 1 if isinstance(thing, int) and thing in (0, 1) else thing


def wrong_kinds(paper):
    """The paper with one tuple made a list, or one 0 or 1 made a truth, or one part made None, at any depth."""
    return [copy for change in (listed, as_truth, lambda thing: None) for copy in at_each_depth(paper, change)]


def wrong_counts(paper):
    """The paper with one thing more or one thing fewer."""
    return [paper[:-1], paper + (0,), paper + ((0, ()),), paper[1:], (), paper[:1]]


class Case(unittest.TestCase):
    """A test case that looks at kinds, too, and asks twice."""

    def assertSame(self, told, right):
        if not same(told, right):
            self.fail(f"{told!r} is not {right!r}")

    def assertTold(self, right, call, *things):
        """The call tells what is right, twice, and changes nothing of what it was handed."""
        before = copy.deepcopy(things)
        self.assertSame(call(*things), right)
        self.assertSame(call(*things), right)
        self.assertSame(things, before)

    def assertRefused(self, error, fields, call, *things):
        """The call refuses with just this error and these fields, and changes nothing of what it was handed."""
        before = copy.deepcopy(things)
        with self.assertRaises(error) as caught:
            call(*things)
        self.assertIs(type(caught.exception), error)
        self.assertEqual(set(vars(caught.exception)), set(fields))
        for name in fields:
            self.assertSame(getattr(caught.exception, name), fields[name])
        self.assertSame(things, before)
