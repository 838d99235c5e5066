"""DEEDS: rows exchanged, turned, put to one another; done, as tables, and led back."""

from stepforms.errors import NoDeed
from stepforms.fractions import is_number
from stepforms.tables import row_scaled, row_sum, unit


def is_row_number(many, thing):
    """Tell of any thing whether it is the number of one of so many rows."""
    return is_number(thing) and 0 <= thing < many


def are_two_rows(many, one, other):
    """Tell of two things whether they are unlike numbers of rows."""
    return is_row_number(many, one) and is_row_number(many, other) and one != other


def is_deed(many, thing):
    """Tell of any thing whether it is a DEED for so many rows."""
    if not isinstance(thing, tuple) or len(thing) < 2:
        return False
    word = thing[0]
    if word == "swap":
        return len(thing) == 3 and are_two_rows(many, thing[1], thing[2])
    if word == "turn":
        return len(thing) == 2 and is_row_number(many, thing[1])
    if word == "add":
        return len(thing) == 4 and are_two_rows(many, thing[1], thing[2]) and is_number(thing[3])
    return False


def refuse_other_than_deeds(many, thing):
    """Refuse any thing that is no DEEDS for so many rows."""
    if not isinstance(thing, tuple):
        raise NoDeed(-1)
    for place, deed in enumerate(thing):
        if not is_deed(many, deed):
            raise NoDeed(place)


def do_deed(rows, deed):
    """Do one DEED on a list of rows."""
    word = deed[0]
    i = deed[1]
    if word == "swap":
        j = deed[2]
        rows[i], rows[j] = rows[j], rows[i]
    elif word == "turn":
        rows[i] = row_scaled(rows[i], -1)
    else:
        rows[i] = row_sum(rows[i], row_scaled(rows[deed[2]], deed[3]))


def done(table, deeds):
    """Tell the TABLE behind the DEEDS; refuse any thing that is none with NoDeed."""
    wide, rows = table
    refuse_other_than_deeds(len(rows), deeds)
    led = list(rows)
    for deed in deeds:
        do_deed(led, deed)
    return (wide, tuple(led))


def deeds_table(many, deeds):
    """Tell the UNIT of so many rows behind the DEEDS; refuse any thing that is none with NoDeed."""
    return done(unit(many), deeds)


def contrary_deed(deed):
    """Tell the DEED that undoes this one."""
    if deed[0] == "add":
        word, i, j, k = deed
        return (word, i, j, -k)
    return deed


def led_back(deeds):
    """Tell the DEEDS that lead back what these led."""
    return tuple([contrary_deed(deed) for deed in reversed(deeds)])
