"""A keeper: a sure table of its own, into which forms are put and from which they are struck."""

from dots.errors import NoEntry, Two
from dots.reading import read
from dots.sure import settled
from dots.tables import made_table
from dots.writing import written


def check_sure(table, most):
    """Refuse a table with more than most twins, and one that isn't sure."""
    told = settled(table, most)
    if told[0] == "two":
        raise Two(told[1], told[2], told[3])


class Keeper:
    """A sure table, and how many twins it may have at most."""

    def __init__(self, table, most=2000):
        check_sure(table, most)
        self.held = table
        self.most = most

    def table(self):
        """The table of now."""
        return self.held

    def put(self, form):
        """Put a form in behind all others, or refuse it."""
        table = made_table(self.held[0] + (form,), self.held[1], self.held[2])
        check_sure(table, self.most)
        self.held = table

    def strike(self, letters, cells):
        """Strike the form of these letters and cells, or refuse it."""
        forms = [form for form in self.held[0] if form[:2] != (letters, cells)]
        if len(forms) == len(self.held[0]):
            raise NoEntry("no form has these letters and cells")
        # A row has no more writings by fewer forms, so the table is sure without one, too.
        self.held = made_table(forms, self.held[1], self.held[2])

    def write(self, text):
        """A writing of the text with the fewest cells, or a refusal."""
        return written(self.held, text)[0]

    def read(self, row):
        """The text of which the row is a writing, or a refusal."""
        return read(self.held, row)
