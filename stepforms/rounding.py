"""Rounding: the deeds by rows and by columns that lead a table to its ROUNDS, its ROUNDS, and a rounds paper."""

from stepforms.deeds import deeds_table, done, led_back
from stepforms.roundchecker import divides
from stepforms.tables import turned_over


def least_place(rows, k):
    """Tell (row, column), from k on, of the least number but 0, signs left out; None where there is none."""
    places = [(i, j) for i in range(k, len(rows)) for j in range(k, len(rows[i])) if rows[i][j] != 0]
    if places == []:
        return None
    # Of equal ones the first is taken, so that the one at (k, k) stays there: else there might be no end.
    return min(places, key=lambda place: abs(rows[place[0]][place[1]]))


def swap_deeds(k, at):
    """Tell DEEDS that bring the row at this place to k."""
    return () if at == k else (("swap", k, at),)


def clearing_deeds(rows, k):
    """Tell DEEDS that leave, in column k, of each number below that of row k but its rest by it."""
    number = rows[k][k]
    return tuple([("add", at, k, -(rows[at][k] // number)) for at in range(k + 1, len(rows)) if rows[at][k] != 0])


def undivided_row(rows, k):
    """Tell the first row behind k with a number that isn't divided by that at (k, k), None where there is none."""
    for at in range(k + 1, len(rows)):
        if not all([divides(rows[k][k], number) for number in rows[at]]):
            return at
    return None


def next_deeds(table, k):
    """Tell the next DEEDS, (by rows, by columns), towards the number at (k, k) being a DOWN; None where it is one."""
    rows = table[1]
    least = least_place(rows, k)
    if least is None:
        return None
    if least != (k, k):
        return (swap_deeds(k, least[0]), swap_deeds(k, least[1]))
    if rows[k][k] < 0:
        return ((("turn", k),), ())
    # Each rest that isn't 0 is less than the number at (k, k) and takes its place: so this ends.
    by_rows = clearing_deeds(rows, k)
    if by_rows != ():
        return (by_rows, ())
    by_columns = clearing_deeds(turned_over(table)[1], k)
    if by_columns != ():
        return ((), by_columns)
    undivided = undivided_row(rows, k)
    return None if undivided is None else ((("add", k, undivided, 1),), ())


def done_both(table, deeds):
    """Tell the TABLE behind DEEDS (by rows, by columns)."""
    by_rows, by_columns = deeds
    return turned_over(done(turned_over(done(table, by_rows)), by_columns))


def rounds_deeds(table):
    """Tell DEEDS (by rows, by columns) that lead the table to its ROUNDS."""
    wide, rows = table
    by_rows = []
    by_columns = []
    led = table
    for k in range(min(wide, len(rows))):
        found = next_deeds(led, k)
        while found is not None:
            by_rows.extend(found[0])
            by_columns.extend(found[1])
            led = done_both(led, found)
            found = next_deeds(led, k)
    return (tuple(by_rows), tuple(by_columns))


def rounds_of(table):
    """Tell the ROUNDS of the table."""
    return done_both(table, rounds_deeds(table))


def rounds_paper(table):
    """Tell a rounds paper of the table."""
    wide, rows = table
    by_rows, by_columns = rounds_deeds(table)
    left = deeds_table(len(rows), by_rows)
    left_back = deeds_table(len(rows), led_back(by_rows))
    right = turned_over(deeds_table(wide, by_columns))
    right_back = turned_over(deeds_table(wide, led_back(by_columns)))
    return ("rounds", done_both(table, (by_rows, by_columns)), left, left_back, right, right_back)
