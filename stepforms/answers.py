"""All whole ANSWERS: a paper of them, or one that bars them."""

from stepforms.points import point_paper
from stepforms.stepping import steps_paper


def answers_paper(table, point):
    """Tell an ANSWERS paper where the POINT is in the LATTICE, else an "out" paper."""
    paper = point_paper(table, point)
    if paper[0] == "out":
        return paper
    return ("answers", paper[1]) + steps_paper(table)[1:]
