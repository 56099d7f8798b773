"""Cells of six dots and rows of cells, and how they are written as texts."""

DOT_FIGURES = "123456"


def dots_of(cell):
    """The dots of a cell, rising."""
    return [dot for dot in range(1, 7) if (cell >> (dot - 1)) & 1 == 1]


def cell_of(dots):
    """The cell that has these dots, in whatever order and however often they stand there."""
    cell = 0
    for dot in dots:
        cell = cell | (1 << (dot - 1))
    return cell


def is_raised(cell):
    """Whether a thing is a cell with a dot at least, so from 1 to 63."""
    # Python counts True as 1, but a truth is no whole number here.
    return isinstance(cell, int) and not isinstance(cell, bool) and 1 <= cell <= 63


def shown_cell(cell):
    """The text that writes a cell."""
    if cell == 0:
        return "0"
    return "".join([str(dot) for dot in dots_of(cell)])


def shown_row(row):
    """The text that writes a row."""
    return " ".join([shown_cell(cell) for cell in row])


def read_cell(text):
    """The cell that a text writes, or None."""
    cell = cell_of([int(sign) for sign in text if sign in DOT_FIGURES])
    # A cell is written in one way alone: what it isn't written as writes no cell.
    return cell if shown_cell(cell) == text else None


def read_row(text):
    """The row that a text writes, or None."""
    if text == "":
        return ()
    cells = [read_cell(word) for word in text.split(" ")]
    return None if None in cells else tuple(cells)
