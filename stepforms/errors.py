"""The refusals. Each keeps the very things that it is made of and looks at none of them."""


class FormError(ValueError):
    """Any refusal."""


class NoDeed(FormError):
    """A thing that is no DEEDS: -1, or the place in it of the first thing that is no DEED."""

    def __init__(self, number):
        self.number = number


class NoText(FormError):
    """Lines that can't be read: the row and the word of the first thing that can't stand."""

    def __init__(self, row, word):
        self.row = row
        self.word = word


class NoPaper(FormError):
    """A thing that no checker lets by: the word for what is wrong, and where."""

    def __init__(self, word, number):
        self.word = word
        self.number = number


class NoBack(FormError):
    """A table without a BACK: its CORNER."""

    def __init__(self, corner):
        self.corner = corner


class NoRow(FormError):
    """A thing that is no number of a row that stands."""

    def __init__(self, number):
        self.number = number


class NoLine(FormError):
    """A row that a desk does not know: the row itself."""

    def __init__(self, line):
        self.line = line
