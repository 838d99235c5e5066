"""STEPS looked at, and the checker of STEPS PAPERS."""

from stepforms.errors import NoPaper
from stepforms.papers import first_unlike_row, is_paper, is_table_of, refuse_at
from stepforms.tables import is_table, times, unit


def lead_of(row):
    """Tell the LEAD of the ROW, None where it is NOUGHT."""
    for column, number in enumerate(row):
        if number != 0:
            return column
    return None


def goes_on(rows, at):
    """Tell whether the row at this place goes on in STEPS with the rows ahead, which are in STEPS."""
    lead = lead_of(rows[at])
    if lead is None:
        return True
    if at > 0:
        lead_ahead = lead_of(rows[at - 1])
        if lead_ahead is None or lead_ahead >= lead:
            return False
    number = rows[at][lead]
    return number > 0 and all([0 <= row[lead] < number for row in rows[:at]])


def first_out_of_steps(table):
    """Tell the least row with which the rows from row 0 to it are not in STEPS, None where there is none."""
    rows = table[1]
    for at in range(len(rows)):
        if not goes_on(rows, at):
            return at
    return None


def is_steps(thing):
    """Tell of any thing whether it is a TABLE in STEPS."""
    return is_table(thing) and first_out_of_steps(thing) is None


def has_steps_shape(table, thing):
    """Tell of any thing whether it has the shape of a STEPS PAPER of the table."""
    if not is_paper("steps", 4, thing):
        return False
    many = len(table[1])
    word, form, there, back = thing
    return is_table_of(many, table[0], form) and is_table_of(many, many, there) and is_table_of(many, many, back)


def lets_steps(table, thing):
    """Tell True of a STEPS PAPER of the table; refuse any other thing with NoPaper."""
    if not has_steps_shape(table, thing):
        raise NoPaper("shape", 0)
    word, form, there, back = thing
    refuse_at("form", first_out_of_steps(form))
    refuse_at("there", first_unlike_row(times(there, table), form))
    refuse_at("back", first_unlike_row(times(there, back), unit(len(table[1]))))
    return True
