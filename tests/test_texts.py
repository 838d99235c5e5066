"""Promises 19, 20 and 21."""

import random
import unittest

from stepforms.errors import NoText
from stepforms.fractions import fraction_of
from stepforms.texts import (deeds_lines, fraction_text, read_deeds, read_fraction, read_row, read_table, row_text,
                             table_lines)
from tests.helper import Case, deeds_by, table_by

SIXTY = "9" * 60
NO_NUMBERS = ["", " ", "-", "--1", "+1", "-0", "00", "01", "-01", "0x1", "1.0", "1e3", "1_0", "a", "1a", " 1", "1 ",
              "- 1", "1-", "9" * 61, "-" + "9" * 61, "1" + "0" * 60, "0" * 61, "9" * 1000, "9" * 5000, "True", "None", "\t"]


class Fractions(Case):
    def test_written(self):
        for fraction, text in [((0, 1), "0"), ((5, 1), "5"), ((-5, 1), "-5"), ((1, 2), "1/2"), ((-10, 7), "-10/7"),
                               ((10 ** 60 - 1, 10 ** 60), SIXTY + "/1" + "0" * 60), ((10 ** 60, 1), "1" + "0" * 60),
                               ((-10 ** 60 - 5, 1), "-1" + "0" * 59 + "5"), ((100, 1), "100")]:
            self.assertTold(text, fraction_text, fraction)

    def test_numbers_of_very_many_figures_are_written(self):
        for size in (59, 60, 61, 119, 120, 121, 4000, 6000):
            self.assertTold("1" + "0" * size, fraction_text, (10 ** size, 1))
            self.assertTold("-" + "9" * size, fraction_text, (1 - 10 ** size, 1))

    def test_read(self):
        for text, fraction in [("0", (0, 1)), ("7", (7, 1)), ("-7", (-7, 1)), ("1/2", (1, 2)), ("-10/7", (-10, 7)),
                               (SIXTY, (10 ** 60 - 1, 1)), ("-" + SIXTY, (1 - 10 ** 60, 1)),
                               ("1/" + SIXTY, (1, 10 ** 60 - 1)), ("-" + SIXTY + "/2", (1 - 10 ** 60, 2)), ("10", (10, 1))]:
            self.assertTold(fraction, read_fraction, text)

    def test_not_read(self):
        for word in NO_NUMBERS:
            for text in (word, word + "/2", "1/" + word):
                self.assertTold(None, read_fraction, text)
        for text in ["1/1", "2/1", "0/1", "0/2", "2/4", "-2/4", "1/0", "0/0", "1/-2", "-1/-2", "1//2", "1/2/3", "/", "/2",
                     "1/", "1/2 ", " 1/2", "1 /2", "1/ 2", "1/02", "01/2", "-0/2", "3/3", "1\\2", "(1, 2)", "6/9"]:
            self.assertTold(None, read_fraction, text)

    def test_written_and_read_again(self):
        dice = random.Random(21)
        for _ in range(200):
            most = dice.choice([9, 10 ** 20, 10 ** 60 - 1])
            fraction = fraction_of(dice.randint(-most, most), dice.randint(1, most))
            self.assertSame(read_fraction(fraction_text(fraction)), fraction)


class Rows(Case):
    def test_written(self):
        for row, text in [((), "-"), ((0,), "0"), ((1, -2, 30), "1 -2 30"), ((10 ** 60 - 1, 0), SIXTY + " 0")]:
            self.assertTold(text, row_text, row)
            self.assertTold(row, read_row, text)

    def test_not_read(self):
        for word in NO_NUMBERS:
            for text in (word + " 1", "1 " + word, "2 " + word + " 1"):
                self.assertTold(None, read_row, text)
        for text in ["", " ", "1  2", " 1", "1 ", "- ", " -", "--", "1,2", "1/2", "-0", "01", "1 - 2", "()", "9" * 61, "- -"]:
            self.assertTold(None, read_row, text)

    def test_written_and_read_again(self):
        dice = random.Random(22)
        for size in range(9):
            row = tuple(dice.randint(-10 ** 60 + 1, 10 ** 60 - 1) // 10 ** dice.randint(0, 59) for _ in range(size))
            self.assertSame(read_row(row_text(row)), row)


class Tables(Case):
    def refused(self, row, word, lines):
        self.assertRefused(NoText, {"row": row, "word": word}, read_table, lines)

    def test_written(self):
        for table, lines in [((0, ()), ["table 0"]), ((0, ((), ())), ["table 0", "row", "row"]), ((3, ()), ["table 3"]),
                             ((2, ((1, -2), (0, 10))), ["table 2", "row 1 -2", "row 0 10"])]:
            self.assertTold(lines, table_lines, table)
            self.assertTold(table, read_table, lines)

    def test_written_and_read_again(self):
        dice = random.Random(23)
        for _ in range(100):
            table = table_by(dice, dice.randint(0, 8), dice.randint(0, 8), dice.choice([1, 99, 10 ** 60 - 1]))
            self.assertSame(read_table(table_lines(table)), table)

    def test_a_told_list_is_the_askers_own(self):
        table = (1, ((5,),))
        table_lines(table).clear()
        self.assertSame(table_lines(table), ["table 1", "row 5"])

    def test_the_first_line(self):
        self.refused(0, 0, [])
        for line in ["", " ", "table0", "Table 2", " table 2", "tables 2", "row 1", "swap 0 1", "tabl", "-", "2"]:
            self.refused(0, 0, [line])
            self.refused(0, 0, [line, "row 1", "", "x"])
        self.refused(0, 1, ["table"])
        self.refused(0, 1, ["table", "row"])
        for word in NO_NUMBERS:
            if " " not in word:
                self.refused(0, 1, ["table " + word])
                self.refused(0, 1, ["table " + word + " more", "other"])
        for word in ["-1", "61", "100", SIXTY, "-60", " 2", "2.0"]:
            self.refused(0, 1, ["table " + word])
        self.refused(0, 2, ["table 2 "])
        self.refused(0, 2, ["table 2 3"])
        self.refused(0, 2, ["table 0 x y z", "row"])
        self.refused(0, 1, ["table  2"])

    def test_wide_60_and_61(self):
        numbers = " ".join(["7"] * 60)
        self.assertTold((60, ((7,) * 60,)), read_table, ["table 60", "row " + numbers])
        self.assertTold((60, ()), read_table, ["table 60"])
        self.refused(1, 61, ["table 60", "row " + numbers + " 7"])
        self.refused(1, 60, ["table 60", "row " + numbers[2:]])
        self.refused(0, 1, ["table 61", "row " + numbers + " 7"])

    def test_the_rows(self):
        for line in ["", " ", "rows 1 2", "Row 1 2", " row 1 2", "1 2", "table 2", "row1 2"]:
            self.refused(1, 0, ["table 2", line])
            self.refused(2, 0, ["table 2", "row 3 4", line, "x"])
            self.refused(1, 0, ["table 0", line])
        for word in NO_NUMBERS:
            if " " not in word:
                self.refused(1, 1, ["table 2", "row " + word])
                self.refused(1, 1, ["table 2", "row " + word + " x"])
                self.refused(3, 2, ["table 2", "row 1 2", "row 3 4", "row 5 " + word + " 6", "row"])
        self.refused(1, 1, ["table 2", "row"])
        self.refused(1, 2, ["table 2", "row 1"])
        self.refused(1, 3, ["table 2", "row 1 2 3"])
        self.refused(1, 3, ["table 2", "row 1 2 "])
        self.refused(1, 1, ["table 0", "row 1"])
        self.refused(1, 1, ["table 0", "row "])
        self.refused(1, 1, ["table 2", "row  1 2"])
        self.refused(2, 0, ["table 0", "row", "", "row"])
        self.assertTold((1, ((10 ** 60 - 1,), (1 - 10 ** 60,))), read_table, ["table 1", "row " + SIXTY, "row -" + SIXTY])


class Deeds(Case):
    def refused(self, row, word, many, lines):
        self.assertRefused(NoText, {"row": row, "word": word}, read_deeds, many, lines)

    def test_written(self):
        deeds = (("swap", 0, 2), ("turn", 1), ("add", 2, 0, -10), ("add", 0, 1, 0))
        lines = ["swap 0 2", "turn 1", "add 2 0 -10", "add 0 1 0"]
        self.assertTold(lines, deeds_lines, deeds)
        self.assertTold(deeds, read_deeds, 3, lines)

    def test_none(self):
        self.assertTold([], deeds_lines, ())
        for many in range(9):
            self.assertTold((), read_deeds, many, [])

    def test_written_and_read_again(self):
        dice = random.Random(24)
        for _ in range(100):
            many = dice.randint(0, 8)
            deeds = deeds_by(dice, many, dice.randint(0, 20), dice.choice([0, 9, 10 ** 60 - 1]))
            self.assertSame(read_deeds(many, deeds_lines(deeds)), deeds)

    def test_the_first_word(self):
        for line in ["", " ", "Swap 0 1", "swap0 1", " swap 0 1", "other 0", "table 2", "row", "0 1", "-", "swapadd 0 1 2"]:
            self.refused(0, 0, 3, [line])
            self.refused(2, 0, 3, ["turn 0", "add 0 1 5", line, "x"])

    def test_numbers_of_rows(self):
        for word in [word for word in NO_NUMBERS if " " not in word] + ["3", "-1", "8", SIXTY]:
            for line in ("swap " + word + " 1", "turn " + word, "add " + word, "add " + word + " 1 2 3"):
                self.refused(1, 1, 3, ["turn 0", line])
            for line in ("swap 1 " + word, "add 1 " + word, "add 1 " + word + " x", "swap 1 " + word + " 2"):
                self.refused(0, 2, 3, [line, line])
        self.refused(0, 2, 3, ["swap 1 1"])
        self.refused(0, 2, 3, ["add 2 2 5"])
        self.refused(0, 2, 1, ["swap 0 0"])
        self.refused(0, 2, 1, ["swap 0 1"])
        self.refused(0, 1, 0, ["turn 0"])
        self.refused(0, 1, 1, ["turn 1"])
        self.assertTold((("swap", 7, 0),), read_deeds, 8, ["swap 7 0"])

    def test_k(self):
        for word in NO_NUMBERS:
            if " " not in word:
                self.refused(0, 3, 3, ["add 0 1 " + word])
                self.refused(0, 3, 3, ["add 0 1 " + word + " 5"])
        self.assertTold((("add", 0, 1, 10 ** 60 - 1), ("add", 0, 1, 1 - 10 ** 60), ("add", 0, 1, 1)), read_deeds, 2,
                        ["add 0 1 " + SIXTY, "add 0 1 -" + SIXTY, "add 0 1 1"])

    def test_words_that_lack_and_words_too_many(self):
        for lines, word in [(["swap"], 1), (["swap 0"], 2), (["turn"], 1), (["add"], 1), (["add 0"], 2), (["add 0 1"], 3),
                            (["swap 0 1 2"], 3), (["swap 0 1 "], 3), (["turn 0 1"], 2), (["turn 0 "], 2),
                            (["add 0 1 2 3"], 4), (["add 0 1 2 3 x"], 4), (["add 0 1 2 "], 4), (["swap  0 1"], 1),
                            (["swap "], 1), (["swap 0 "], 2), (["add 0 1 "], 3)]:
            self.refused(0, word, 3, lines)
            self.refused(1, word, 3, ["swap 0 1"] + lines)

    def test_a_told_list_is_the_askers_own(self):
        deeds = (("turn", 0),)
        deeds_lines(deeds).append("x")
        self.assertSame(deeds_lines(deeds), ["turn 0"])


if __name__ == "__main__":
    unittest.main()
