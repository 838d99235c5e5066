"""Short rows: a SHORT PAPER of a table of two rows, and their lengths."""

from stepforms.deeds import deeds_table, done, led_back
from stepforms.shortchecker import length_of, row_product


def next_short_deed(rows):
    """Tell the next DEED towards short rows, None where they are short."""
    a, b = rows
    length = length_of(a)
    if length > length_of(b):
        return ("swap", 0, 1)
    slant = row_product(a, b)
    if 2 * abs(slant) > length:
        # The NUMBER nearest to slant by length, so that b becomes shorter each time and this ends.
        return ("add", 1, 0, -((2 * slant + length) // (2 * length)))
    return None


def short_deeds(table):
    """Tell DEEDS that lead the table of two rows to short ones."""
    deeds = []
    led = table
    deed = next_short_deed(led[1])
    while deed is not None:
        deeds.append(deed)
        led = done(led, (deed,))
        deed = next_short_deed(led[1])
    return tuple(deeds)


def short_paper(table):
    """Tell a SHORT PAPER of the table of two rows."""
    deeds = short_deeds(table)
    return ("short", done(table, deeds), deeds_table(2, deeds), deeds_table(2, led_back(deeds)))


def short_lengths(table):
    """Tell the lengths of the two rows of any SHORT PAPER of the table."""
    a, b = done(table, short_deeds(table))[1]
    return (length_of(a), length_of(b))
