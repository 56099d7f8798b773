"""A desk: it is told lines, and answers each with a text."""

from dots.cells import read_cell, read_row, shown_row
from dots.errors import NoLine, Two
from dots.keeper import Keeper
from dots.lines import broken, hinges_of
from dots.tables import cells_in
from dots.tabletexts import read_line, read_table, shown_table
from dots.twins import twins_of
from dots.writing import written

PARTING = " / "
MOST_TWINS = 2000
MOST_WIDTH = 80


def read_width(text):
    """The width that a text writes, or None."""
    for width in range(1, MOST_WIDTH + 1):
        if text == str(width):
            return width
    return None


def read_answer(keeper, text):
    """The text that the written row reads."""
    row = read_row(text)
    if row is None:
        raise NoLine("a row is read, as its cells are written")
    return keeper.read(row)


def put_answer(keeper, text):
    """Put the written form in."""
    words = text.split(" ")
    cells = read_row(" ".join(words[2:]))
    if "" in words[:2] or cells is None or cells == ():
        raise NoLine("a form is put in by its letters, its places and its cells")
    keeper.put((words[0], cells, words[1]))
    return "ok"


def strike_answer(keeper, text):
    """Strike the form of the written letters and cells."""
    words = text.split(" ")
    cells = read_row(" ".join(words[1:]))
    if words[0] == "" or cells is None or cells == ():
        raise NoLine("a form is struck by its letters and its cells")
    keeper.strike(words[0], cells)
    return "ok"


def lines_answer(keeper, text):
    """The lines of a text, for the width and the mark that are written ahead of it."""
    words = text.split(" ", 2)
    if len(words) < 3:
        raise NoLine("lines are asked for by a width, a cell and a text")
    width = read_width(words[0])
    mark = read_cell(words[1])
    if width is None or mark is None or mark == 0 or mark in cells_in(keeper.table()):
        raise NoLine("no such width, or a cell that can't be the mark")
    told = written(keeper.table(), words[2])
    return PARTING.join([shown_row(line) for line in broken(told[0], hinges_of(told[1]), width, mark)])


def answer(keeper, line):
    """The answer to a line that needs a table."""
    if line == "show":
        return PARTING.join(shown_table(keeper.table()))
    parts = line.partition(" ")
    # The blank belongs to the line, also where no text follows it.
    word = parts[0] + parts[1]
    if word == "write ":
        return shown_row(keeper.write(parts[2]))
    if word == "count ":
        return str(len(keeper.write(parts[2])))
    if word == "read ":
        return read_answer(keeper, parts[2])
    if word == "put ":
        return put_answer(keeper, parts[2])
    if word == "strike ":
        return strike_answer(keeper, parts[2])
    if word == "lines ":
        return lines_answer(keeper, parts[2])
    raise NoLine("no line begins so")


class Desk:
    """The lines kept for the next table, and the keeper of the table of now, None while there is none."""

    def __init__(self):
        self.kept = []
        self.keeper = None

    def say(self, line):
        """The answer to a line, or a refusal."""
        if read_line(line) is not None:
            self.kept.append(line)
            return "ok"
        if line == "table":
            return self.make_table()
        if self.keeper is None:
            raise NoLine("there is no table yet")
        return answer(self.keeper, line)

    def make_table(self):
        """Take the table of the lines kept from now on, where it is sure."""
        lines = self.kept
        # These lines go in any case, also where the table is refused.
        self.kept = []
        try:
            keeper = Keeper(read_table(lines), MOST_TWINS)
        except Two as two:
            return PARTING.join(["two", shown_row(two.row), two.text, two.other])
        self.keeper = keeper
        return "sure " + str(len(twins_of(keeper.table(), MOST_TWINS)))
