"""The checker of ANSWERS papers, and all ANSWERS by a paper that is let by."""

from stepforms.errors import NoPaper
from stepforms.papers import is_paper
from stepforms.pointchecker import lets_point, refuse_other_sum
from stepforms.stepchecker import lets_steps
from stepforms.tables import is_nought, is_row, row_scaled, row_sum, row_times


def lets_answers(table, point, thing):
    """Tell True of an ANSWERS paper and of an "out" paper of the table and the POINT; refuse others with NoPaper."""
    if is_paper("out", 2, thing):
        return lets_point(table, point, thing)
    if not is_paper("answers", 5, thing) or not is_row(len(table[1]), thing[1]):
        raise NoPaper("shape", 0)
    refuse_other_sum(table, point, thing[1])
    return lets_steps(table, ("steps",) + thing[2:])


def form_rank(paper):
    """Tell how many rows of the paper's form aren't NOUGHT."""
    return len([row for row in paper[2][1] if not is_nought(row)])


def free_rows(paper):
    """Tell the TABLE of the FREE rows of an ANSWERS paper."""
    many, rows = paper[3]
    return (many, rows[form_rank(paper):])


def answer_at(paper, numbers):
    """Tell the ANSWER that the ROW of as many numbers as there are FREE rows makes."""
    return row_sum(paper[1], row_times(numbers, free_rows(paper)))


def numbers_of(paper, row):
    """Tell the ROW of numbers that makes this ANSWER, None where the ROW is no ANSWER."""
    # What is put to the paper's one is a sum of the rows of there: it leaves the POINT just where all these are FREE.
    numbers = row_times(row_sum(row, row_scaled(paper[1], -1)), paper[4])
    rank = form_rank(paper)
    if not is_nought(numbers[:rank]):
        return None
    return numbers[rank:]
