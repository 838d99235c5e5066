"""A desk: tables of numbers laid by NAMES, led by deeds, looked at, and changes undone."""

from stepforms.aliking import are_alike
from stepforms.backs import corner_of
from stepforms.deeds import done
from stepforms.errors import NoDeed, NoLine
from stepforms.points import rest_of
from stepforms.roundchecker import downs_of
from stepforms.rounding import rounds_of
from stepforms.stepping import steps_of
from stepforms.tables import is_nought
from stepforms.texts import number_text, numbers_words, read_number
from stepforms.twinning import are_twins

LETTERS = "abcdefghijklmnopqrstuvwxyz"
MOST_LETTERS = 8
MOST_NUMBER = 99
MOST_WIDE = 4
MOST_ROWS = 4
MOST_TWIN_NUMBER = 9
MOST_TWIN_ROWS = 3


def truth_text(truth):
    """Tell the text that answers whether something is so."""
    return "yes" if truth else "no"


def commas_text(numbers):
    """Tell the numbers with commas between, "-" of none."""
    return ",".join(numbers_words(numbers)) if numbers != () else "-"


def is_square(table):
    """Tell whether the TABLE is SQUARE."""
    return table[0] == len(table[1])


def show_text(table):
    """Tell the rows of the TABLE, parted by blanks, "-" of none."""
    return " ".join([commas_text(row) for row in table[1]]) if table[1] != () else "-"


def steps_text(table):
    """Tell the rows of its STEPS table."""
    return show_text(steps_of(table))


def rounds_text(table):
    """Tell the numbers on the way down of its ROUNDS."""
    return commas_text(downs_of(rounds_of(table)))


def corner_text(table):
    """Tell the CORNER of the TABLE, None of one that isn't SQUARE."""
    return number_text(corner_of(table)) if is_square(table) else None


def alike_text(one, other):
    """Tell whether two TABLES are ALIKE, None where they aren't as wide as one another."""
    return truth_text(are_alike(one, other)) if one[0] == other[0] else None


def may_be_twin(table):
    """Tell whether of the TABLE it may be asked whether it has a TWIN."""
    rows = table[1]
    if not is_square(table) or not 1 <= len(rows) <= MOST_TWIN_ROWS:
        return False
    return all([abs(number) <= MOST_TWIN_NUMBER for row in rows for number in row])


def twins_text(one, other):
    """Tell whether two TABLES are TWINS, None where that can't be asked of them."""
    if not may_be_twin(one) or not may_be_twin(other) or one[0] != other[0]:
        return None
    return truth_text(are_twins(one, other))


def has_text(table, point):
    """Tell whether the POINT is in the LATTICE of the TABLE."""
    return truth_text(is_nought(rest_of(table, point)))


def rest_text(table, point):
    """Tell the REST of the POINT by the TABLE."""
    return commas_text(rest_of(table, point))


TABLE_LOOKS = {"show": show_text, "steps": steps_text, "rounds": rounds_text, "corner": corner_text}
PAIR_LOOKS = {"alike": alike_text, "twins": twins_text}
POINT_LOOKS = {"has": has_text, "rest": rest_text}
DEED_WORDS = ("swap", "turn", "add")


def table_look(word, table, numbers):
    """Tell what is seen of one TABLE, None where the row doesn't fit."""
    look = TABLE_LOOKS[word]
    return look(table) if numbers == () else None


def pair_look(word, one, other, numbers):
    """Tell what is seen of two TABLES, None where the row doesn't fit."""
    look = PAIR_LOOKS[word]
    return look(one, other) if numbers == () else None


def point_look(word, table, numbers):
    """Tell what is seen of a TABLE and a POINT, None where the row doesn't fit."""
    look = POINT_LOOKS[word]
    return look(table, numbers) if len(numbers) == table[0] else None


def name_count(word):
    """Tell how many NAMES stand behind the word, None where it is no word that a row begins with."""
    if word in PAIR_LOOKS:
        return 2
    if word in TABLE_LOOKS or word in POINT_LOOKS or word in DEED_WORDS or word in ("lay", "drop"):
        return 1
    return 0 if word in ("undo", "names") else None


def is_name(word):
    """Tell whether the word is a NAME."""
    return 1 <= len(word) <= MOST_LETTERS and all([sign in LETTERS for sign in word])


def read_small(word):
    """Tell the NUMBER of at most two figures that the word writes, None where none."""
    number = read_number(word)
    return number if number is not None and abs(number) <= MOST_NUMBER else None


def read_desk_row(row):
    """Tell (word, names, numbers) of a desk's row, None where it is none."""
    words = row.split(" ")
    count = name_count(words[0])
    if count is None or len(words) <= count:
        return None
    names = words[1:count + 1]
    numbers = [read_small(word) for word in words[count + 1:]]
    if not all([is_name(name) for name in names]) or None in numbers:
        return None
    return (words[0], names, tuple(numbers))


def laid_table(numbers):
    """Tell the TABLE of its wide and its rows' numbers one behind the other, None where they make none."""
    if numbers == () or not 1 <= numbers[0] <= MOST_WIDE:
        return None
    wide = numbers[0]
    behind = numbers[1:]
    if len(behind) % wide != 0 or len(behind) > MOST_ROWS * wide:
        return None
    return (wide, tuple([behind[at:at + wide] for at in range(0, len(behind), wide)]))


def led_table(table, deed):
    """Tell the TABLE behind the thing, None where this is no DEED for it."""
    try:
        return done(table, (deed,))
    except NoDeed:
        return None


class Desk:
    """A desk that keeps TABLES by NAMES and is told rows."""

    def __init__(self):
        self.laid = {}
        self.before = []

    def keep(self, laid):
        """Keep these TABLES from now on, and what was kept before for undo."""
        self.before.append(self.laid)
        self.laid = laid
        return "ok"

    def keep_table(self, name, table):
        """Keep the TABLE by this NAME; None where there is no TABLE, as the row doesn't fit."""
        if table is None:
            return None
        laid = dict(self.laid)
        laid[name] = table
        return self.keep(laid)

    def drop(self, name, numbers):
        """Keep no TABLE by this NAME; None where the row doesn't fit."""
        if numbers != ():
            return None
        return self.keep({other: self.laid[other] for other in self.laid if other != name})

    def undo(self):
        """Take the last change back."""
        if self.before == []:
            return "none"
        self.laid = self.before.pop()
        return "ok"

    def names_text(self):
        """Tell all NAMES, rising, "-" of none."""
        return " ".join(sorted(self.laid)) if self.laid != {} else "-"

    def answer_named(self, word, names, numbers):
        """Answer a row of TABLES that must be there; None where one isn't, or the row doesn't fit."""
        if not all([name in self.laid for name in names]):
            return None
        table = self.laid[names[0]]
        if word in TABLE_LOOKS:
            return table_look(word, table, numbers)
        if word in POINT_LOOKS:
            return point_look(word, table, numbers)
        if word in PAIR_LOOKS:
            return pair_look(word, table, self.laid[names[1]], numbers)
        if word == "drop":
            return self.drop(names[0], numbers)
        return self.keep_table(names[0], led_table(table, (word,) + numbers))

    def answer(self, word, names, numbers):
        """Answer what was read of a row, None where it doesn't fit."""
        if word == "lay":
            return self.keep_table(names[0], laid_table(numbers))
        if names != []:
            return self.answer_named(word, names, numbers)
        if numbers != ():
            return None
        return self.undo() if word == "undo" else self.names_text()

    def say(self, row):
        """Answer the row; refuse one that is none, or that doesn't fit, with NoLine."""
        found = read_desk_row(row) if isinstance(row, str) else None
        told = None if found is None else self.answer(found[0], found[1], found[2])
        if told is None:
            raise NoLine(row)
        return told
