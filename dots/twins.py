"""Twins: two spots to which walks by the same cells lead, and what the one walk has told beyond the other."""

from dots.edges import edges_by_state
from dots.errors import TooMany
from dots.spots import FIRST, steps_by_cell


def count_alike(text, other):
    """How many signs the longest beginning has that both texts have."""
    count = 0
    for sign, other_sign in zip(text, other):
        if sign != other_sign:
            return count
        count = count + 1
    return count


def told_on(ahead, behind, text, other):
    """What is told ahead and behind when text is told behind the first of these and other behind the second."""
    one = ahead + text
    two = behind + other
    count = count_alike(one, two)
    return (one[count:], two[count:])


def ways_among(steps, others):
    """The ways on from a twin, of the steps by cell from its one and from its other.

    A way is a tuple (cell, text, other, twin): the cell, what the two steps by it tell, the twin behind them.
    """
    ways = []
    for cell in steps:
        for spot, text in steps[cell]:
            ways.extend([(cell, text, other, (spot, there)) for there, other in others.get(cell, [])])
    return ways


def known_steps(known, edges, spot):
    """The steps by cell from a spot, reckoned once for each spot."""
    if spot not in known:
        known[spot] = steps_by_cell(edges, spot)
    return known[spot]


def ways_from(known, edges, twin):
    """The ways on from a twin, each once."""
    return ways_among(known_steps(known, edges, twin[0]), known_steps(known, edges, twin[1]))


def twins_of(table, most):
    """All twins of a table, each once, or a refusal where there are more than most."""
    edges = edges_by_state(table)
    known = {}
    met = {(FIRST, FIRST): True}
    waiting = [(FIRST, FIRST)]
    while waiting != []:
        twin = waiting.pop()
        for way in ways_from(known, edges, twin):
            if way[3] not in met:
                met[way[3]] = True
                waiting.append(way[3])
        if len(met) > most:
            raise TooMany(most)
    return list(met)
