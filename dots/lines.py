"""Rows broken into lines of a width, the least ragged that there are, and put together again."""

from dots.errors import NoLines

# In these states a word has begun, and letters must follow.
WITHIN_WORDS = ("in", "all")


def ends_with(line, mark):
    """Whether the last cell of a line is the mark."""
    return line[-1:] == (mark,)


def line_raggedness(line, width, mark):
    """What a line adds to the raggedness, where it isn't the last one."""
    more = 1 if ends_with(line, mark) else 0
    return (width - len(line)) ** 2 + more


def raggedness(lines, width, mark):
    """How ragged lines are for this width."""
    return sum([line_raggedness(line, width, mark) for line in lines[:-1]])


def joined(lines, mark):
    """The row that lines make when they are put together."""
    cells = []
    for line in lines[:-1]:
        if ends_with(line, mark):
            cells.extend(line[:-1])
        else:
            cells.extend(line + (0,))
    cells.extend(lines[-1])
    return tuple(cells)


def breaks_of(row, hinges, mark):
    """For each place where the row may be broken: what is laid behind the line, and where the next one begins."""
    breaks = {}
    for place, cell in enumerate(row):
        if cell == 0:
            breaks[place] = ((), place + 1)
    for place in hinges:
        breaks[place] = ((mark,), place)
    return breaks


def lines_from(row, begin, width, breaks):
    """The lines from this place to a break, each with the place where the next one begins."""
    found = []
    for place in range(begin, begin + width + 1):
        if place in breaks:
            line = row[begin:place] + breaks[place][0]
            if len(line) <= width:
                found.append((line, breaks[place][1]))
    return found


def least_lines(row, width, mark, breaks):
    """For each place from which there are lines: the least raggedness of these, the first line, the next one's begin.

    The begin behind the last line is None.
    """
    least = {}
    for begin in range(len(row), -1, -1):
        if len(row) - begin <= width:
            # The last line isn't counted, so no lines from here are less ragged than this one by itself.
            least[begin] = (0, row[begin:], None)
        else:
            ways = lines_from(row, begin, width, breaks)
            found = [(line_raggedness(line, width, mark) + least[other][0], line, other)
                     for line, other in ways if other in least]
            if found != []:
                least[begin] = min(found)
    return least


def broken(row, hinges, width, mark):
    """Lines of the row of the least raggedness, or a refusal where there are none."""
    least = least_lines(row, width, mark, breaks_of(row, hinges, mark))
    if 0 not in least:
        raise NoLines("the row can't be broken into lines of this width")
    lines = []
    begin = 0
    while begin is not None:
        lines.append(least[begin][1])
        begin = least[begin][2]
    return lines


def hinges_of(steps):
    """The places in the row of these steps where a word goes on."""
    hinges = []
    count = 0
    for step in steps:
        count = count + len(step[2])
        if step[3] in WITHIN_WORDS:
            hinges.append(count)
    return hinges
