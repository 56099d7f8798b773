"""The writings of a text: what the fewest cells are, one that has them, and whether a row is one."""

from dots.edges import STATES, edges_by_state, may_end
from dots.errors import NoSign
from dots.tables import signs_of


def check_signs(table, text):
    """Refuse a text with a sign that is none of the table's."""
    signs = signs_of(table)
    for place, sign in enumerate(text):
        if sign not in signs:
            raise NoSign(place)


def edges_at(edges, text, place):
    """Those of the edges whose texts stand at this place of the text."""
    return [edge for edge in edges if text.startswith(edge[1], place)]


def price_by(edge, place, known):
    """The fewest cells from this place to an end by this edge first, or None, where the later prices are known."""
    rest = known[place + len(edge[1])][edge[3]]
    return None if rest is None else len(edge[2]) + rest


def price_from(edges, text, place, known):
    """The fewest cells from this place to an end by one of these edges first, or None."""
    found = [price_by(edge, place, known) for edge in edges_at(edges, text, place)]
    return min([price for price in found if price is not None], default=None)


def known_prices(edges, text):
    """For each place of the text, its end too, and each state the fewest cells from there to an end, or None."""
    known = [{} for sign in text] + [{}]
    for place in range(len(text), -1, -1):
        # The edge without a text asks for the price of "let" at its own place, so "let" goes ahead of "num".
        for state in reversed(STATES):
            if place == len(text) and may_end(state):
                known[place][state] = 0
            else:
                known[place][state] = price_from(edges[state], text, place, known)
    return known


def prices(table, text):
    """For each place of the text, its end too, the list of the prices from the states in their order."""
    check_signs(table, text)
    known = known_prices(edges_by_state(table), text)
    told = []
    for there in known:
        told.append([there[state] for state in STATES])
    return told


def cheapest_edge(edges, place, known, price):
    """The first of the edges by which the rest of a text has this price."""
    return [edge for edge in edges if price_by(edge, place, known) == price][0]


def row_of(steps):
    """The cells of edges, one behind the other."""
    cells = []
    for step in steps:
        cells.extend(step[2])
    return tuple(cells)


def written(table, text):
    """A writing of the text with the fewest cells, and the list of the edges that it comes of."""
    check_signs(table, text)
    edges = edges_by_state(table)
    known = known_prices(edges, text)
    steps = []
    place = 0
    state = "out"
    while place < len(text):
        step = cheapest_edge(edges_at(edges[state], text, place), place, known, known[place][state])
        steps.append(step)
        place = place + len(step[1])
        state = step[3]
    return (row_of(steps), steps)


# Many places of a row are kept as one whole number, which by twos has a 1 for each of them: so all of them
# go on by an edge at once, however many they are.


def places_of_each(row):
    """For each cell of a row the places where it stands, as one number."""
    found = {}
    for place, cell in enumerate(row):
        found[cell] = found.get(cell, 0) | (1 << place)
    return found


def places_of(cells, found):
    """The places where these cells, one at least, begin to stand one behind the other, as one number."""
    places = found.get(cells[0], 0)
    for count, cell in enumerate(cells):
        places = places & (found.get(cell, 0) >> count)
    return places


def go_on(come, place, edge, found):
    """Add the places of the row to which the edge leads from those that are come to at this place of the text."""
    places = come[place][edge[0]] & places_of(edge[2], found)
    there = come[place + len(edge[1])]
    there[edge[3]] = there.get(edge[3], 0) | (places << len(edge[2]))


def is_written(table, text, row):
    """Whether the row is a writing of the text."""
    edges = edges_by_state(table)
    found = places_of_each(row)
    come = [{} for sign in text] + [{}]
    come[0]["out"] = 1
    for place in range(len(text) + 1):
        # The edge without a text leads to "let" at its own place: "num", ahead of it, is walked ahead of it.
        for state in STATES:
            if come[place].get(state, 0) != 0:
                for edge in edges_at(edges[state], text, place):
                    go_on(come, place, edge, found)
    ends = [come[len(text)].get(state, 0) for state in STATES if may_end(state)]
    return any([(places >> len(row)) & 1 == 1 for places in ends])
