"""Spots: where one stands while a row is walked cell by cell, and the steps from spot to spot."""

from dots.edges import edges_by_state, may_end

FIRST = ("out", (), "")


def is_end(spot):
    """Whether a walk over a writing may end at a spot."""
    return spot[1] == () and may_end(spot[0])


def edges_from(edges, spot):
    """The edges from a spot; within an edge what is left of it, as an edge by itself."""
    if spot[1] == ():
        return edges[spot[0]]
    return [(spot[0], spot[2], spot[1], spot[0])]


def step_along(edge):
    """The spot behind the first cell of an edge, and what is told by it."""
    rest = edge[2][1:]
    if rest == ():
        return ((edge[3], (), ""), edge[1])
    return ((edge[3], rest, edge[1]), "")


def steps_among(edges, cell):
    """The steps by a cell along these edges, sorted."""
    # No two edges from one spot are the same step by one cell, so each step is there once.
    return sorted([step_along(edge) for edge in edges if edge[2][0] == cell])


def steps_by(table, spot, cell):
    """The steps of the table from a spot by a cell, sorted, each once."""
    return steps_among(edges_from(edges_by_state(table), spot), cell)


def steps_by_cell(edges, spot):
    """For each cell by which one comes on from a spot the list of the steps, the edges given by state."""
    found = edges_from(edges, spot)
    steps = {}
    for cell in sorted(set([edge[2][0] for edge in found])):
        steps[cell] = steps_among(found, cell)
    return steps
