"""Promises 87 and 88 (and 2 and 7 of them)."""

import random
import re
import unittest

from stepforms.aliking import are_alike
from stepforms.backs import corner_of
from stepforms.deeds import done
from stepforms.desk import Desk
from stepforms.errors import FormError, NoLine
from stepforms.points import rest_of
from stepforms.roundchecker import downs_of
from stepforms.rounding import rounds_of
from stepforms.stepping import steps_of
from stepforms.twinning import twins_paper
from tests.helper import Case

# One row of each form, right where these tables are laid.
LAID = ["lay a 2 1 2 3 4", "lay b 2 2 4 1 3", "lay c 3 1 0 0 0 1 0", "lay d 1", "lay e 4 1 2 3 4 5 6 7 8 9 10 11 12 13 14 15 16",
        "lay f 2 10 0 0 1", "lay g 1 5", "lay h 3 1 0 0 0 1 0 0 0 1"]
RIGHT = ["lay z 2 5 6", "swap a 0 1", "turn a 1", "add a 0 1 -9", "drop a", "undo", "names", "show a", "steps a", "rounds a", "corner a",
         "alike a b", "has a 1 2", "rest a 5 7", "twins a b"]


def commas(numbers):
    return ",".join(map(str, numbers)) or "-"


def shown(table):
    return " ".join(map(commas, table[1])) or "-"


class PlainDesk:
    """A desk by the document's words, slow and plain."""

    NAME = "([a-z]{1,8})"
    NUMBER = "(0|-?[1-9][0-9]?)"
    FORMS = {
        "lay": f"lay {NAME} ([1-4])((?: (?:0|-?[1-9][0-9]?))*)", "swap": f"swap {NAME} {NUMBER} {NUMBER}", "turn": f"turn {NAME} {NUMBER}",
        "add": f"add {NAME} {NUMBER} {NUMBER} {NUMBER}", "drop": f"drop {NAME}", "undo": "undo", "names": "names", "show": f"show {NAME}",
        "steps": f"steps {NAME}", "rounds": f"rounds {NAME}", "corner": f"corner {NAME}", "alike": f"alike {NAME} {NAME}",
        "has": f"has {NAME}((?: (?:0|-?[1-9][0-9]?))*)", "rest": f"rest {NAME}((?: (?:0|-?[1-9][0-9]?))*)",
        "twins": f"twins {NAME} {NAME}"}

    def __init__(self):
        self.stages = [{}]

    def say(self, row):
        """The answer, None where the row is refused."""
        for word, form in self.FORMS.items():
            found = re.fullmatch(form, row)
            if found:
                return getattr(self, word)(*found.groups())
        return None

    def now(self):
        return self.stages[-1]

    def change(self, **tables):
        self.stages.append({name: table for name, table in {**self.now(), **tables}.items() if table is not None})
        return "ok"

    def lay(self, name, wide, numbers):
        wide, numbers = int(wide), [int(n) for n in numbers.split()]
        if len(numbers) % wide or len(numbers) > 4 * wide:
            return None
        return self.change(**{name: (wide, tuple(tuple(numbers[k:k + wide]) for k in range(0, len(numbers), wide)))})

    def deed(self, name, word, rows, *more):
        table = self.now().get(name)
        if table is None or len(set(rows)) < len(rows) or not all(0 <= row < len(table[1]) for row in rows):
            return None
        return self.change(**{name: done(table, ((word, *rows, *more),))})

    def swap(self, name, i, j):
        return self.deed(name, "swap", [int(i), int(j)])

    def turn(self, name, i):
        return self.deed(name, "turn", [int(i)])

    def add(self, name, i, j, k):
        return self.deed(name, "add", [int(i), int(j)], int(k))

    def drop(self, name):
        return self.change(**{name: None}) if name in self.now() else None

    def undo(self):
        if len(self.stages) == 1:
            return "none"
        self.stages.pop()
        return "ok"

    def names(self):
        return " ".join(sorted(self.now())) or "-"

    def look(self, see, *names):
        tables = [self.now().get(name) for name in names]
        return None if None in tables else see(*tables)

    def show(self, name):
        return self.look(shown, name)

    def steps(self, name):
        return self.look(lambda table: shown(steps_of(table)), name)

    def rounds(self, name):
        return self.look(lambda table: commas(downs_of(rounds_of(table))), name)

    def corner(self, name):
        return self.look(lambda table: str(corner_of(table)) if table[0] == len(table[1]) else None, name)

    def alike(self, one, other):
        return self.look(lambda a, b: "no yes".split()[are_alike(a, b)] if a[0] == b[0] else None, one, other)

    def point(self, name, numbers, see):
        point = tuple(int(n) for n in numbers.split())
        return self.look(lambda table: see(rest_of(table, point)) if table[0] == len(point) else None, name)

    def has(self, name, numbers):
        return self.point(name, numbers, lambda rest: "no" if any(rest) else "yes")

    def rest(self, name, numbers):
        return self.point(name, numbers, commas)

    def twins(self, one, other):
        def see(a, b):
            fits = all(1 <= len(t[1]) <= 3 and t[0] == len(t[1]) and all(abs(n) < 10 for row in t[1] for n in row) for t in (a, b))
            return {"twins": "yes", "strangers": "no"}[twins_paper(a, b)[0]] if fits and a[0] == b[0] else None
        return self.look(see, one, other)


class Told(Case):
    def desk(self, *rows):
        desk = Desk()
        for row in rows:
            self.assertSame(desk.say(row), "ok")
        return desk

    def tells(self, desk, *said):
        """The desk answers each row just so."""
        for row, answer in said:
            self.assertSame((row, desk.say(row)), (row, answer))

    def refuses(self, desk, *rows):
        for row in rows:
            with self.assertRaises(NoLine) as caught:
                desk.say(row)
            self.assertIs(type(caught.exception), NoLine)
            self.assertIs(caught.exception.line, row)
            self.assertEqual(set(vars(caught.exception)), {"line"})
            self.assertIsInstance(caught.exception, FormError)

    def all_of(self, desk):
        """All that is there, by looks alone."""
        names = desk.say("names")
        return [names] + [desk.say("show " + name) for name in names.split(" ") if name != "-"]


class Answers(Told):
    def test_each_form(self):
        self.tells(
            Desk(), ("names", "-"), ("undo", "none"), ("lay a 2 1 2 3 4", "ok"), ("names", "a"), ("show a", "1,2 3,4"), ("steps a", "1,0 0,2"),
            ("rounds a", "1,2"), ("corner a", "-2"), ("has a 1 2", "yes"), ("has a 0 1", "no"), ("rest a 0 1", "0,1"), ("rest a -3 -5", "0,1"),
            ("swap a 0 1", "ok"), ("show a", "3,4 1,2"), ("turn a 1", "ok"), ("show a", "3,4 -1,-2"), ("add a 0 1 3", "ok"),
            ("show a", "0,-2 -1,-2"), ("add a 1 0 -1", "ok"), ("show a", "0,-2 -1,0"), ("corner a", "-2"), ("lay b 2 0 2 1 0", "ok"),
            ("alike a b", "yes"), ("alike b a", "yes"), ("twins a b", "yes"), ("lay c 2 0 1 2 0", "ok"), ("twins b c", "yes"), ("alike b c", "no"),
            ("turn c 0", "ok"), ("twins b c", "no"), ("undo", "ok"), ("names", "a b c"), ("drop b", "ok"), ("names", "a c"), ("undo", "ok"), ("names", "a b c"))

    def test_numbers(self):
        desk = self.desk("lay a 3 0 -1 99 -99 10 9 1 2 3")
        self.tells(desk, ("show a", "0,-1,99 -99,10,9 1,2,3"), ("rest a 0 0 0", "0,0,0"), ("has a 0 0 0", "yes"), ("add a 0 1 0", "ok"),
                   ("show a", "0,-1,99 -99,10,9 1,2,3"), ("add a 2 0 -99", "ok"), ("show a", "0,-1,99 -99,10,9 1,101,-9798"))

    def test_tables_of_no_rows(self):
        desk = self.desk("lay a 1", "lay b 4", "lay c 4 0 0 0 0")
        self.tells(desk, ("show a", "-"), ("steps a", "-"), ("rounds a", "-"), ("has a 0", "yes"), ("has a 1", "no"), ("rest a -5", "-5"),
                   ("alike a a", "yes"), ("alike b c", "yes"), ("rest b 1 -2 3 -4", "1,-2,3,-4"), ("show b", "-"), ("rounds c", "0"),
                   ("steps c", "0,0,0,0"))
        self.refuses(desk, "corner a", "twins a a", "turn a 0", "alike a b", "has b 0", "has b")

    def test_steps_with_nought_rows(self):
        desk = self.desk("lay a 2 0 0 2 4 1 2 3 6")
        self.tells(desk, ("steps a", "1,2 0,0 0,0 0,0"), ("rounds a", "1,0"), ("has a 7 14", "yes"), ("rest a 7 15", "0,1"))

    def test_shapes(self):
        desk = self.desk("lay a 4 1 2 3 4", "lay b 1 1 2 3 4", "lay c 4" + " 1 0 0 0 0 1 0 0 0 0 1 0 0 0 0 7", "lay d 1 -9", "lay e 3 0 0 0 0 0 0 0 0 0")
        self.tells(desk, ("show a", "1,2,3,4"), ("show b", "1 2 3 4"), ("rounds a", "1"), ("rounds b", "1"), ("steps b", "1 0 0 0"),
                   ("corner c", "7"), ("rounds c", "1,1,1,7"), ("corner d", "-9"), ("steps d", "9"), ("twins d d", "yes"), ("twins e e", "yes"),
                   ("corner e", "0"), ("rounds e", "0,0,0"))

    def test_names(self):
        names = ["a", "z", "abcdefgh", "zzzzzzzz", "ab", "abc", "lay", "undo", "names", "show", "ok", "none", "yes", "swap", "drop", "row", "x"]
        desk = Desk()
        for at, name in enumerate(names):
            self.tells(desk, (f"lay {name} 1 {at}", "ok"))
        self.tells(desk, ("names", " ".join(sorted(names))))
        for at, name in enumerate(names):
            self.tells(desk, (f"show {name}", str(at)), (f"alike {name} {name}", "yes"))
        self.tells(desk, ("drop ab", "ok"), ("show abc", "5"), ("show a", "0"), ("lay lay 1 7", "ok"), ("show lay", "7"),
                   ("drop undo", "ok"), ("undo", "ok"), ("show undo", "7"), ("drop drop", "ok"), ("drop names", "ok"))
        self.refuses(desk, "show ab", "show abcd", "show drop", "drop drop", "show names")
        self.tells(desk, ("names", " ".join(sorted(set(names) - {"ab", "drop", "names"}))))

    def test_great_numbers(self):
        desk = self.desk("lay a 2 99 1 1 99")
        plain = (2, ((99, 1), (1, 99)))
        for k in range(30):
            row = f"add a {k % 2} {1 - k % 2} 99"
            self.tells(desk, (row, "ok"))
            plain = done(plain, (("add", k % 2, 1 - k % 2, 99),))
        self.tells(desk, ("show a", shown(plain)), ("corner a", "9800"), ("steps a", shown(steps_of((2, ((99, 1), (1, 99)))))), ("rounds a", "1,9800"))
        self.assertGreater(len(desk.say("show a")), 100)

    def test_twins(self):
        desk = self.desk("lay a 3 1 0 0 0 2 0 0 0 3", "lay b 3 3 0 0 0 1 0 0 0 2", "lay c 3 1 0 0 0 1 0 0 0 3", "lay d 2 1 0 0 2", "lay e 1 9",
                         "lay f 1 -9", "lay g 2 0 9 -9 0", "lay h 2 0 -9 9 0")
        self.tells(desk, ("twins a b", "yes"), ("twins b a", "yes"), ("twins a c", "no"), ("twins a a", "yes"), ("twins e f", "no"),
                   ("twins g h", "yes"), ("twins d d", "yes"))
        self.refuses(desk, "twins a d", "twins d e", "twins d a", "twins e d")


class Undone(Told):
    def test_each_change(self):
        for change in ["lay z 1 5", "lay a 1 5", "swap a 0 1", "turn a 0", "add a 0 1 7", "drop a", "add a 1 0 0", "lay a 2 1 2 3 4"]:
            desk = self.desk("lay a 2 1 2 3 4", "lay b 1 7")
            before = self.all_of(desk)
            self.tells(desk, (change, "ok"))
            self.tells(desk, ("undo", "ok"))
            self.assertSame(self.all_of(desk), before)
            self.tells(desk, ("undo", "ok"), ("names", "a"), ("undo", "ok"), ("names", "-"), ("undo", "none"), ("undo", "none"), ("names", "-"))

    def test_many_times_to_none(self):
        desk = Desk()
        stages = []
        rows = ["lay a 2 1 2 3 4", "swap a 0 1", "lay b 1 3", "turn a 0", "add a 1 0 5", "drop a", "lay a 1 9", "turn b 0", "lay b 2 1 1", "drop b"]
        for row in rows:
            stages.append(self.all_of(desk))
            self.tells(desk, (row, "ok"))
        while stages:
            self.tells(desk, ("undo", "ok"))
            self.assertSame(self.all_of(desk), stages.pop())
        self.tells(desk, ("undo", "none"), ("lay a 1 4", "ok"), ("undo", "ok"), ("undo", "none"))

    def test_laid_anew(self):
        desk = self.desk("lay a 1 1", "lay a 2 1 2", "lay a 3", "drop a", "lay a 1 5")
        self.tells(desk, ("show a", "5"), ("undo", "ok"), ("names", "-"), ("undo", "ok"), ("show a", "-"), ("has a 0 0 0", "yes"), ("undo", "ok"),
                   ("show a", "1,2"), ("undo", "ok"), ("show a", "1"), ("undo", "ok"), ("names", "-"), ("undo", "none"))

    def test_what_is_undone_is_not_undone_twice(self):
        desk = self.desk("lay a 2 1 2 3 4", "turn a 0", "turn a 1")
        self.tells(desk, ("undo", "ok"), ("show a", "-1,-2 3,4"), ("swap a 0 1", "ok"), ("show a", "3,4 -1,-2"), ("undo", "ok"),
                   ("show a", "-1,-2 3,4"), ("undo", "ok"), ("show a", "1,2 3,4"), ("undo", "ok"), ("undo", "none"), ("names", "-"))

    def test_looks_are_not_undone(self):
        desk = self.desk(*LAID)
        before = self.all_of(desk)
        for row in RIGHT[6:] + ["rest h 1 2 3", "rounds e", "show d", "alike a a"]:
            first = desk.say(row)
            self.tells(desk, (row, first))
            self.assertSame(self.all_of(desk), before)
        self.tells(desk, ("undo", "ok"), ("names", "a b c d e f g"), ("undo", "ok"), ("names", "a b c d e f"))


class Refused(Told):
    def refuses_and_stays(self, *rows):
        """Each row is refused, changes nothing, and can't be undone."""
        for row in rows:
            desk = self.desk(*LAID)
            before = self.all_of(desk)
            self.refuses(desk, row, row)
            self.assertSame(self.all_of(desk), before)
            self.tells(desk, ("undo", "ok"), ("names", "a b c d e f g"))
        desk = self.desk(*LAID)
        self.refuses(desk, *rows)
        for _ in LAID:
            self.tells(desk, ("undo", "ok"))
        self.tells(desk, ("undo", "none"))

    def test_right_rows_are_answered(self):
        for row in RIGHT:
            self.assertIs(type(self.desk(*LAID).say(row)), str)

    def test_a_word_out(self):
        for row in RIGHT:
            words = row.split(" ")
            for place in range(len(words)):
                self.refuses_and_stays(" ".join(words[:place] + words[place + 1:]))
        self.refuses_and_stays("lay z", "lay 2", "lay z 5", "add a", "swap a", "swap", "alike", "has a", "rest")

    def test_one_too_many(self):
        for row in RIGHT:
            self.refuses_and_stays(row + " 1", row + " a", row + " -", row + " x y")
        self.refuses_and_stays("undo undo", "names names", "show a b", "drop a b", "alike a b c", "turn a 0 1", "swap a 0 1 0", "add a 0 1 1 1")

    def test_blanks(self):
        self.refuses_and_stays("", " ", "  ")
        for row in RIGHT:
            self.refuses_and_stays(" " + row, row + " ", "  " + row)
            if " " in row:
                self.refuses_and_stays(row.replace(" ", "  "), row.replace(" ", "  ", 1), row.replace(" ", ""), row.replace(" ", ",", 1))

    def test_words(self):
        for row in RIGHT:
            self.refuses_and_stays(row.upper(), row.capitalize(), row[1:], row[0] + row, "x" + row)
        self.refuses_and_stays("lays a 1", "ok", "none", "-", "a", "show", "row a 1", "redo", "lay", "table 2", "has", "0", "undo.", "names,", "steps:a")

    def test_names(self):
        for name in ["A", "aB", "a1", "1", "abcdefghi", "-", "", "a_b", "a-b", "0", "a.b", "abcdefghijklmnop", "1a", "~", "aA"]:
            self.refuses_and_stays(f"lay {name} 2 1 2", f"show {name}", f"alike a {name}", f"alike {name} a", f"has {name} 1 2")

    def test_names_that_are_not_there(self):
        for row in RIGHT[1:5] + RIGHT[7:]:
            self.refuses_and_stays(row.replace(" a", " y", 1), row.replace(" a", " aa", 1))
        self.refuses_and_stays("alike a y", "alike y a", "twins a y", "twins y y", "drop names", "show undo")

    def test_numbers(self):
        for number in ["00", "-0", "+1", "100", "-100", "01", "-01", "1.", "1,2", "x", "1/2", "", "-", "--1", "1-", "0x1", "1_0", "007", "999999"]:
            self.refuses_and_stays(f"lay z 2 1 {number}", f"lay z {number} 1 1", f"swap a 0 {number}", f"turn a {number}", f"add a 0 1 {number}",
                                   f"add a {number} 1 1", f"has a 1 {number}", f"rest a {number} 1")

    def test_wide(self):
        self.refuses_and_stays("lay z 0", "lay z 5", "lay z 0 1", "lay z 5 1 1 1 1 1", "lay z -1", "lay z -2 1 1", "lay z 10", "lay a 0", "lay a 5")

    def test_whole_rows(self):
        self.refuses_and_stays("lay z 2 1", "lay z 2 1 2 3", "lay z 3 1 2", "lay z 4 1 2 3", "lay z 4 1 2 3 4 5", "lay z 3 1 2 3 4", "lay a 2 1")

    def test_five_rows(self):
        for wide in (1, 2, 3, 4):
            numbers = " 1" * wide
            self.refuses_and_stays(f"lay z {wide}" + numbers * 5, f"lay z {wide}" + numbers * 6, f"lay a {wide}" + numbers * 5)
            self.tells(Desk(), (f"lay z {wide}" + numbers * 4, "ok"))

    def test_rows(self):
        self.refuses_and_stays("swap a 0 0", "swap a 1 1", "add a 0 0 1", "add a 1 1 0", "swap a 0 2", "swap a 2 0", "swap a -1 0", "swap a 0 -1",
                               "turn a 2", "turn a -1", "turn a 99", "add a 0 2 1", "add a 2 0 1", "add a -1 0 1", "add a 0 -1 1", "turn d 0",
                               "swap d 0 1", "swap g 0 0", "swap g 0 1", "add g 0 0 1", "turn g 1", "swap e 3 4", "turn e 4", "add c 1 2 1")

    def test_kinds_that_do_not_fit(self):
        # Tables not as wide as one another, not SQUARE, points of another count.
        self.refuses_and_stays("alike a c", "alike c a", "alike a e", "alike d a", "alike g a", "corner c", "corner d", "twins c c", "twins a c",
                               "twins c a", "has a 1", "has a 1 2 3", "has a", "rest a", "rest a 1", "rest a 1 2 3", "has d", "has d 1 2", "rest e 1 2")
        # For twins: four rows, no rows, numbers beyond 9, another count of rows.
        self.refuses_and_stays("twins e e", "twins d d", "twins f f", "twins a f", "twins f a", "twins a g", "twins g a", "twins a h", "twins h a")

    def test_numbers_beyond_by_deeds(self):
        desk = self.desk("lay a 2 9 1 0 9")
        self.tells(desk, ("twins a a", "yes"), ("add a 0 1 1", "ok"), ("show a", "9,10 0,9"))
        self.refuses(desk, "twins a a")
        self.tells(desk, ("add a 0 1 -1", "ok"), ("twins a a", "yes"), ("turn a 0", "ok"), ("twins a a", "yes"))

    def test_other_things(self):
        desk = self.desk("lay a 2 1 2 3 4")
        self.refuses(desk, None, 0, True, ("undo",), ["undo"], ["lay", "a", "1"], (), [])
        self.tells(desk, ("show a", "1,2 3,4"), ("undo", "ok"), ("undo", "none"))


class Desks(Told):
    def test_two_desks_know_nothing_of_one_another(self):
        one, other = Desk(), Desk()
        self.tells(one, ("lay a 1 5", "ok"), ("lay b 1 6", "ok"))
        self.tells(other, ("names", "-"), ("undo", "none"), ("lay a 2 1 2", "ok"))
        self.refuses(other, "show b")
        self.tells(one, ("show a", "5"), ("undo", "ok"), ("names", "a"))
        self.tells(other, ("show a", "1,2"), ("drop a", "ok"), ("names", "-"))
        self.tells(one, ("show a", "5"), ("undo", "ok"), ("undo", "none"))
        self.tells(other, ("undo", "ok"), ("show a", "1,2"))

    def test_one_name_twice(self):
        desk = self.desk("lay a 2 1 2 3 4", "lay b 2 0 0 0 0", "lay aa 2 1 2 3 4")
        for name in ("a", "b", "aa"):
            self.tells(desk, (f"alike {name} {name}", "yes"), (f"twins {name} {name}", "yes"))
        self.tells(desk, ("alike a aa", "yes"), ("alike aa a", "yes"), ("alike a b", "no"))

    def row_by(self, dice):
        """Some row, right or wrong, by the dice."""
        word = dice.choice(list(PlainDesk.FORMS) + ["lay", "lay", "undo", "add", "add", "swap"])
        words = [word] + [dice.choice(["a", "b", "c", "ab"]) for _ in range({"undo": 0, "names": 0, "alike": 2, "twins": 2}.get(word, 1))]
        if word == "lay":
            wide = dice.choice([1, 2, 2, 2, 3, 4])
            words += [wide] + [dice.randint(-9, 9) for _ in range(wide * dice.choice([wide, dice.randint(0, 4)]))]
        elif word in ("swap", "turn", "add"):
            rows = dice.sample([0, 1, 2, 3], 2)
            words += {"swap": rows, "turn": rows[:1], "add": rows + [dice.randint(-12, 12)]}[word]
        elif word in ("has", "rest"):
            words += [dice.randint(-20, 20) for _ in range(dice.randint(1, 4))]
        if dice.random() < 0.06:
            place = dice.randrange(len(words))
            words[place:place + 1] = dice.choice([[], [words[place]] * 2, ["0"], ["00"], ["x"], [""], ["-1"], ["abcdefghi"]])
        return " ".join(map(str, words))

    def test_forty_rows_by_a_plain_desk(self):
        dice = random.Random(87)
        met = {}
        for _ in range(600):
            desk, plain, other = Desk(), PlainDesk(), Desk()
            for _ in range(40):
                row = self.row_by(dice)
                answer = plain.say(row)
                if answer is None:
                    self.refuses(desk, row)
                else:
                    self.tells(desk, (row, answer))
                word = row.split(" ")[0]
                met[word, answer is None] = met.get((word, answer is None), 0) + 1
            self.assertSame(other.say("names"), "-")
        for word in PlainDesk.FORMS:
            self.assertGreater(met[word, False], 20)

    def test_asked_twice_the_same(self):
        rows = [self.row_by(random.Random(seed)) for seed in range(300)]
        told = []
        for _ in range(2):
            desk, answers = Desk(), []
            for row in rows:
                try:
                    answers.append(desk.say(row))
                except NoLine as error:
                    answers.append(error.line)
            told.append(answers)
        self.assertSame(told[0], told[1])


if __name__ == "__main__":
    unittest.main()
