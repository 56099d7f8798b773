"""The refusals, each a class of its own straight under DotError.

Python keeps what an error was made of as its words, so the fields alone are set here.
"""


class DotError(ValueError):
    """Any refusal."""


class NoForm(DotError):
    """A thing among the forms of a table is no form, or there are none or too many."""

    def __init__(self, number):
        self.number = number


class Twice(DotError):
    """A form has the letters and the cells of an earlier one."""

    def __init__(self, number):
        self.number = number


class NoMark(DotError):
    """A mark, or the figures, can't be those of a table."""

    def __init__(self, number):
        self.number = number


class NoLetter(DotError):
    """A letter of a form has no form of its own."""

    def __init__(self, letter):
        self.letter = letter


class NoTable(DotError):
    """A line can't stand where it does in a written table."""

    def __init__(self, place):
        self.place = place


class NoSign(DotError):
    """A sign of a text is none of the table's."""

    def __init__(self, place):
        self.place = place


class NoReading(DotError):
    """A row is no writing of any text."""

    def __init__(self, place):
        self.place = place


class TooMany(DotError):
    """There are more twins than were allowed."""

    def __init__(self, most):
        self.most = most


class Two(DotError):
    """A row is a writing of two unlike texts."""

    def __init__(self, row, text, other):
        self.row = row
        self.text = text
        self.other = other


class NoLines(DotError):
    """A row can't be broken into lines. Made of a text."""


class NoEntry(DotError):
    """No form has the letters and the cells that were named. Made of a text."""


class NoLine(DotError):
    """A desk can't take a line. Made of a text."""
