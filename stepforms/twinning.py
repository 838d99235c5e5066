"""TWINS or strangers: a paper for it, and the LEAST POLY of a table."""

from stepforms.characters import character_of, layers_at
from stepforms.prounding import prounds_of, prounds_paper
from stepforms.ptables import ptimes


def are_twins(one, other):
    """Tell whether two SQUARE TABLES of as many rows are TWINS."""
    return prounds_of(character_of(one)) == prounds_of(character_of(other))


def twins_paper(one, other):
    """Tell a paper that two SQUARE TABLES of as many rows are TWINS where they are, else that they are strangers."""
    first = prounds_paper(character_of(one))
    second = prounds_paper(character_of(other))
    if first[1] != second[1]:
        return ("strangers", first, second)
    # Both CHARACTERS are led to one form. So the first one times some PTABLE is M times the second one, M being the
    # first left back times the second left. Divided by the first CHARACTER, put ahead, M leaves a PLAIN rest, and the
    # first table times that is it times the second one; this rest is what layers_at tells. The other way about
    # likewise: the PUNIT divided so leaves itself, so that the product of both rests is the PUNIT.
    over = layers_at(ptimes(first[3], second[2]), one)
    back = layers_at(ptimes(second[3], first[2]), other)
    return ("twins", over, back)


def least_poly(table):
    """Tell the LEAST POLY of a SQUARE TABLE: MONIC, and AT the table all ()."""
    return prounds_of(character_of(table))[1][-1][-1]
