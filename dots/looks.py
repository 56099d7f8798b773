"""A look over what is said of a table: over lists of twins by which it is sure, over a row by which it isn't."""

from dots.edges import edges_by_state
from dots.spots import FIRST, is_end
from dots.twins import told_on, ways_from
from dots.writing import is_written


def told_at_each(lives, deads):
    """For each twin of the lists what is told ahead and behind there, None for a dead one."""
    told = {}
    for one, other, ahead, behind in lives:
        told[(one, other)] = (ahead, behind)
    for one, other in deads:
        told[(one, other)] = None
    return told


def ends_well(twin, there):
    """Whether nothing is told ahead or behind at a twin, where it is one of two ends."""
    return there == ("", "") or not (is_end(twin[0]) and is_end(twin[1]))


def leads_well(way, there, told):
    """Whether the twin to which a way leads stands in the lists, with what must be told there."""
    if way[3] not in told:
        return False
    behind = told[way[3]]
    if there is None or behind is None:
        return behind is None
    return behind == told_on(there[0], there[1], way[1], way[2])


def is_closed(table, lives, deads):
    """Whether lists of live twins, with what is told there, and of dead ones show that the table is sure."""
    told = told_at_each(lives, deads)
    if len(told) < len(lives) + len(deads) or told.get((FIRST, FIRST)) != ("", ""):
        return False
    edges = edges_by_state(table)
    known = {}
    for twin in told:
        if not ends_well(twin, told[twin]):
            return False
        for way in ways_from(known, edges, twin):
            if not leads_well(way, told[twin], told):
                return False
    return True


def shows_two(table, row, text, other):
    """Whether the row is a writing of both texts, and these are unlike."""
    return text != other and is_written(table, text, row) and is_written(table, other, row)
