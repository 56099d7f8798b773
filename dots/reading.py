"""Rows read as texts of which they are writings."""

from dots.edges import STATES, edges_by_state, may_end
from dots.errors import NoReading


def count_alike(cells, row, place):
    """How many of the first cells stand in the row from this place on."""
    count = 0
    while count < len(cells) and place + count < len(row) and cells[count] == row[place + count]:
        count = count + 1
    return count


def walk_on(come, edges, row, place):
    """Go by the edges from a place of the row, and tell how far its cells go along with one of them."""
    furthest = place
    for edge in edges:
        count = count_alike(edge[2], row, place)
        furthest = max(furthest, place + count)
        if count == len(edge[2]):
            come[place + count][edge[3]] = edge
    return furthest


def text_to(come, state):
    """The text of a walk that leads to this state at the row's end, found from its last edge to its first one."""
    texts = []
    place = len(come) - 1
    while place > 0:
        edge = come[place][state]
        texts.append(edge[1])
        place = place - len(edge[2])
        state = edge[0]
    return "".join(reversed(texts))


def read(table, row):
    """A text of which the row is a writing, or a refusal."""
    edges = edges_by_state(table)
    # For each place of the row, its end too: the states that are come to there, each with an edge that leads to it.
    come = [{} for cell in row] + [{}]
    come[0]["out"] = None
    furthest = 0
    for place in range(len(row)):
        for state in STATES:
            if state in come[place]:
                furthest = max(furthest, walk_on(come, edges[state], row, place))
    for state in STATES:
        if may_end(state) and state in come[len(row)]:
            return text_to(come, state)
    # From all that is come to one can go on to an end, so these cells are the beginning of a writing.
    raise NoReading(furthest)
