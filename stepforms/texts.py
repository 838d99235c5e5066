"""Texts: numbers, fractions, rows, tables and deeds written, and read again."""

from stepforms.deeds import is_row_number
from stepforms.errors import NoText
from stepforms.fractions import is_fraction

FIGURES = "0123456789"
MOST_FIGURES = 60
MOST_WIDE = 60
PIECE = 10 ** 60
PIECE_FIGURES = 60
DEED_SIZES = {"swap": 3, "turn": 2, "add": 4}


def number_text(number):
    """Tell the NUMBER's figures, a - ahead of one below 0."""
    # Piece by piece, since Python writes no number of very many figures at once.
    left = abs(number)
    pieces = []
    while left >= PIECE:
        left, piece = divmod(left, PIECE)
        pieces.append(str(piece).zfill(PIECE_FIGURES))
    pieces.append(str(left))
    if number < 0:
        pieces.append("-")
    pieces.reverse()
    return "".join(pieces)


def numbers_words(numbers):
    """Tell the list of the words that write the numbers."""
    return [number_text(number) for number in numbers]


def fraction_text(fraction):
    """Tell the text that writes the FRACTION."""
    top, bottom = fraction
    if bottom == 1:
        return number_text(top)
    return number_text(top) + "/" + number_text(bottom)


def row_text(row):
    """Tell the text that writes the ROW."""
    if row == ():
        return "-"
    return " ".join(numbers_words(row))


def read_number(word):
    """Tell the NUMBER that the word writes, None where none."""
    figures = word.removeprefix("-")
    if figures == "" or len(figures) > MOST_FIGURES:
        return None
    if not all([sign in FIGURES for sign in figures]):
        return None
    if figures[0] == "0" and word != "0":
        return None
    return int(word)


def read_fraction(text):
    """Tell the FRACTION that the text writes, None where none."""
    before, slash, behind = text.partition("/")
    top = read_number(before)
    if slash == "":
        return None if top is None else (top, 1)
    bottom = read_number(behind)
    # A bottom 1 is never written, and what is not in lowest terms is no FRACTION.
    if bottom == 1 or not is_fraction((top, bottom)):
        return None
    return (top, bottom)


def read_row(text):
    """Tell the ROW that the text writes, None where none."""
    if text == "-":
        return ()
    numbers = [read_number(word) for word in text.split(" ")]
    if any([number is None for number in numbers]):
        return None
    return tuple(numbers)


def table_lines(table):
    """Tell the list of lines that writes the TABLE."""
    wide, rows = table
    return ["table " + number_text(wide)] + [" ".join(["row"] + numbers_words(row)) for row in rows]


def deeds_lines(deeds):
    """Tell the list of lines that writes the DEEDS."""
    return [" ".join([deed[0]] + numbers_words(deed[1:])) for deed in deeds]


def refuse_count(at, words, size):
    """Refuse a line all of whose words can stand, as far as they ought to be there, but that has another count."""
    if len(words) < size:
        raise NoText(at, len(words))
    if len(words) > size:
        raise NoText(at, size)


def is_wide(number):
    """Tell whether what was read of a word is a wide that may be written."""
    return number is not None and 0 <= number <= MOST_WIDE


def read_wide(line):
    """Tell the wide that a TABLE's first line writes."""
    words = line.split(" ")
    if words[0] != "table":
        raise NoText(0, 0)
    if len(words) > 1 and not is_wide(read_number(words[1])):
        raise NoText(0, 1)
    refuse_count(0, words, 2)
    return read_number(words[1])


def read_table_row(at, wide, line):
    """Tell the ROW of so many numbers that the line at this place writes."""
    words = line.split(" ")
    if words[0] != "row":
        raise NoText(at, 0)
    numbers = [read_number(word) for word in words[1:wide + 1]]
    if None in numbers:
        raise NoText(at, numbers.index(None) + 1)
    refuse_count(at, words, wide + 1)
    return tuple(numbers)


def read_table(lines):
    """Tell the TABLE that the lines write; refuse others with NoText."""
    if lines == []:
        raise NoText(0, 0)
    wide = read_wide(lines[0])
    rows = [read_table_row(at, wide, line) for at, line in enumerate(lines) if at > 0]
    return (wide, tuple(rows))


def fits_deed(many, deed, number):
    """Tell whether what was read of the next word goes on with the DEED begun."""
    if len(deed) == 3:
        return number is not None
    return is_row_number(many, number) and number not in deed[1:]


def read_deed(many, at, line):
    """Tell the DEED for so many rows that the line at this place writes."""
    words = line.split(" ")
    if words[0] not in DEED_SIZES:
        raise NoText(at, 0)
    size = DEED_SIZES[words[0]]
    deed = [words[0]]
    for word in words[1:size]:
        number = read_number(word)
        if not fits_deed(many, deed, number):
            raise NoText(at, len(deed))
        deed.append(number)
    refuse_count(at, words, size)
    return tuple(deed)


def read_deeds(many, lines):
    """Tell the DEEDS for so many rows that the lines write; refuse others with NoText."""
    return tuple([read_deed(many, at, line) for at, line in enumerate(lines)])
