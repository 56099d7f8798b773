"""Whether a table is sure: whether no row is a writing of two unlike texts."""

from dots.edges import edges_by_state
from dots.errors import Two
from dots.spots import FIRST, is_end
from dots.twins import told_on, twins_of, ways_from

# Two walks by the same cells are kept as a tuple (row, text, other): the cells, and what the one and the other tell.
NO_CELLS = ((), "", "")


def laid_behind(walks, further):
    """Two walks with further ones behind them."""
    return (walks[0] + further[0], walks[1] + further[1], walks[2] + further[2])


def walks_along(way):
    """The two walks of one way from a twin to the next one."""
    return ((way[0],), way[1], way[2])


def ways_of_each(table, twins):
    """For each twin the ways on from it."""
    edges = edges_by_state(table)
    known = {}
    ways = {}
    for twin in twins:
        ways[twin] = ways_from(known, edges, twin)
    return ways


def sources_of(ways):
    """For each twin the ways that lead to it, each behind the twin that it comes from."""
    sources = {}
    for twin in ways:
        sources[twin] = []
    for twin in ways:
        for way in ways[twin]:
            sources[way[3]].append((twin, way))
    return sources


def rests_of(ways):
    """For each live twin two walks from it to two ends, of the fewest cells."""
    sources = sources_of(ways)
    waiting = [twin for twin in ways if is_end(twin[0]) and is_end(twin[1])]
    rests = {}
    for twin in waiting:
        rests[twin] = NO_CELLS
    place = 0
    while place < len(waiting):
        twin = waiting[place]
        for source, way in sources[twin]:
            if source not in rests:
                rests[source] = laid_behind(walks_along(way), rests[twin])
                waiting.append(source)
        place = place + 1
    return rests


def check_alike(walks):
    """Refuse two walks to two ends that tell unlike texts."""
    if walks[1] != walks[2]:
        raise Two(walks[0], walks[1], walks[2])


def walks_to_each(ways, rests):
    """For each live twin two walks to it from the first one; a refusal, where the table isn't sure.

    The walks from a twin to two ends are the same, whatever walks lead to it. So if all texts that are told in the
    end are alike, all walks that lead to it have told the same beyond one another.
    """
    begun = {(FIRST, FIRST): NO_CELLS}
    waiting = [(FIRST, FIRST)]
    place = 0
    while place < len(waiting):
        twin = waiting[place]
        for way in [way for way in ways[twin] if way[3] in rests]:
            walks = laid_behind(begun[twin], walks_along(way))
            check_alike(laid_behind(walks, rests[way[3]]))
            if way[3] not in begun:
                begun[way[3]] = walks
                waiting.append(way[3])
        place = place + 1
    return begun


def settled(table, most=2000):
    """Whether a table is sure, with what shows it: its twins, or a row that is a writing of two unlike texts."""
    ways = ways_of_each(table, twins_of(table, most))
    rests = rests_of(ways)
    try:
        begun = walks_to_each(ways, rests)
    except Two as two:
        return ("two", two.row, two.text, two.other)
    lives = [twin + told_on("", "", begun[twin][1], begun[twin][2]) for twin in begun]
    return ("sure", lives, [twin for twin in ways if twin not in rests])
