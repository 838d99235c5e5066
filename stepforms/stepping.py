"""STEPS made: the deeds that lead a table there, its STEPS table, its STEPS PAPER, its leads and its rank."""

from stepforms.deeds import deeds_table, done, led_back
from stepforms.stepchecker import lead_of


def least_row(rows, top, column):
    """Tell which row, from top on, has the least number but 0 in the column, signs left out; None where none has."""
    found = [at for at in range(top, len(rows)) if rows[at][column] != 0]
    if found == []:
        return None
    return min(found, key=lambda at: abs(rows[at][column]))


def deed_below(rows, top, column, least):
    """Tell a DEED towards only row top, from top on, having a number in the column, above 0; None where it is so."""
    for at in range(top, len(rows)):
        if at != least and rows[at][column] != 0:
            # What is left is nearer to 0 than the least one: so this ends, as Euclid's way does.
            return ("add", at, least, -(rows[at][column] // rows[least][column]))
    if least != top:
        return ("swap", top, least)
    if rows[top][column] < 0:
        return ("turn", top)
    return None


def deed_above(rows, top, column):
    """Tell a DEED towards the numbers above the one of row top being from 0 to below it; None where they are."""
    for at in range(top):
        quotient = rows[at][column] // rows[top][column]
        if quotient != 0:
            return ("add", at, top, -quotient)
    return None


def next_deed(rows, top, column):
    """Tell the next DEED towards STEPS in the column, rows ahead of top being in STEPS; None where none is needed."""
    least = least_row(rows, top, column)
    if least is None:
        return None
    deed = deed_below(rows, top, column, least)
    if deed is None:
        deed = deed_above(rows, top, column)
    return deed


def column_deeds(table, top, column):
    """Tell the DEEDS that lead the column to STEPS, rows ahead of top being in STEPS."""
    deeds = []
    led = table
    deed = next_deed(led[1], top, column)
    while deed is not None:
        deeds.append(deed)
        led = done(led, (deed,))
        deed = next_deed(led[1], top, column)
    return tuple(deeds)


def steps_deeds(table):
    """Tell DEEDS that lead the table to its STEPS table."""
    wide, rows = table
    deeds = []
    led = table
    top = 0
    for column in range(wide):
        # Without a row left there is no LEAD to come, however wide the table is.
        if top == len(rows):
            break
        found = column_deeds(led, top, column)
        deeds.extend(found)
        led = done(led, found)
        if led[1][top][column] != 0:
            top += 1
    return tuple(deeds)


def steps_of(table):
    """Tell the STEPS table of the table."""
    return done(table, steps_deeds(table))


def steps_paper(table):
    """Tell a STEPS PAPER of the table."""
    many = len(table[1])
    deeds = steps_deeds(table)
    return ("steps", done(table, deeds), deeds_table(many, deeds), deeds_table(many, led_back(deeds)))


def leads_of(table):
    """Tell the list of the LEADS of the rows of the STEPS table that aren't NOUGHT, rising."""
    leads = [lead_of(row) for row in steps_of(table)[1]]
    return [lead for lead in leads if lead is not None]


def rank_of(table):
    """Tell how many rows of the STEPS table aren't NOUGHT."""
    return len(leads_of(table))
