"""A table as a list of lines, and the table that is read of such lines."""

from dots.cells import read_row, shown_row
from dots.errors import NoTable
from dots.tables import FIGURES, MOST_MARK_CELLS, are_raised, is_form, made_table

# The first words of the lines, in the order of the lines: behind all but the first one stand cells alone.
LINE_WORDS = ("form", "great", "all", "number", "letter", "figures")


def shown_form(form):
    """The line that writes a form."""
    return " ".join(["form", form[0], form[2], shown_row(form[1])])


def shown_table(table):
    """The lines that write a table."""
    lines = [shown_form(form) for form in table[0]]
    for word, cells in zip(LINE_WORDS[1:], table[1] + (table[2],)):
        if cells != ():
            lines.append(word + " " + shown_row(cells))
    return lines


def read_form(words):
    """The form that these words write (letters, places, a word for each cell), or None."""
    if len(words) < 3:
        return None
    cells = read_row(" ".join(words[2:]))
    if cells is None:
        return None
    form = (words[0], cells, words[1])
    return form if is_form(form) else None


def read_cells(words, most):
    """The one to most cells with dots that these words write, or None."""
    cells = read_row(" ".join(words))
    return cells if cells is not None and are_raised(cells, 1, most) else None


def read_line(line):
    """The number of a line's first word among the words of lines, and its form or cells; None where it is no line."""
    words = line.split(" ")
    if words[0] not in LINE_WORDS:
        return None
    if words[0] == "form":
        thing = read_form(words[1:])
    else:
        thing = read_cells(words[1:], len(FIGURES) if words[0] == "figures" else MOST_MARK_CELLS)
    return None if thing is None else (LINE_WORDS.index(words[0]), thing)


def read_table(lines):
    """The table that lines write, or the first refusal that is due."""
    forms = []
    cells = [(), (), (), (), ()]
    least = 0
    for place, line in enumerate(lines):
        entry = read_line(line)
        if entry is None or entry[0] < least:
            raise NoTable(place)
        if entry[0] == 0:
            forms.append(entry[1])
        else:
            cells[entry[0] - 1] = entry[1]
            # Forms alone come again, so behind another line all must come later than it.
            least = entry[0] + 1
    return made_table(forms, cells[:4], cells[4])
