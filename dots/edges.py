"""The states in which one stands while a text is written, and the edges of a table from state to state."""

from dots.tables import FIGURES

# The one edge without a text leads from "num" to "let": it goes forward in this order.
STATES = ("out", "in", "done", "num", "let", "all")
END_STATES = ("out", "done", "num")
# A place of a form, the state in which it may be written there, the state behind it.
WAYS = (
    ("w", "out", "done"), ("w", "let", "done"),
    ("b", "out", "in"), ("b", "let", "in"),
    ("m", "in", "in"), ("e", "in", "done"),
)
# The same within a word that is written all great.
ALL_GREAT_WAYS = (
    ("w", "out", "done"), ("w", "let", "done"),
    ("b", "out", "all"), ("b", "let", "all"),
    ("m", "all", "all"), ("e", "all", "done"),
)


def may_end(state):
    """Whether a writing may end in a state."""
    return state in END_STATES


def blank_edges():
    """The edges of the blank, which every table has."""
    return [(state, " ", (0,), "out") for state in ("out", "done", "num")]


def figure_edges(marks, figures):
    """The edges of the figures, and the one to the letters behind them."""
    if figures == ():
        return []
    edges = [("num", "", marks[3], "let")]
    for figure, cell in zip(FIGURES, figures):
        edges.append(("out", figure, marks[2] + (cell,), "num"))
        edges.append(("done", figure, marks[2] + (cell,), "num"))
        edges.append(("num", figure, (cell,), "num"))
    return edges


def small_edges(forms):
    """The edges of the forms, their letters small."""
    edges = []
    for letters, cells, places in forms:
        for place, state, other in WAYS:
            if place in places:
                edges.append((state, letters, cells, other))
    return edges


def great_edges(edges, mark):
    """For each edge of a form one more, with a great first letter."""
    return [(state, letters[0].upper() + letters[1:], mark + cells, other) for state, letters, cells, other in edges]


def all_great_edges(forms, mark):
    """The edges of the forms in words that are written all great."""
    edges = []
    for letters, cells, places in forms:
        for place, state, other in ALL_GREAT_WAYS:
            # A word of one letter is written by the mark for a great letter alone.
            if place in places and (place != "w" or len(letters) > 1):
                ahead = () if state == "all" else mark
                edges.append((state, letters.upper(), ahead + cells, other))
    return edges


def edges_of(table):
    """The edges of a table, sorted, each once."""
    forms = table[0]
    marks = table[1]
    edges = small_edges(forms)
    if marks[0] != ():
        edges = edges + great_edges(edges, marks[0])
    if marks[1] != ():
        edges = edges + all_great_edges(forms, marks[1])
    if table[2] == ():
        edges = [edge for edge in edges if edge[0] != "let"]
    return sorted(set(edges + blank_edges() + figure_edges(marks, table[2])))


def edges_by_state(table):
    """For each state the list of the edges that go from it."""
    found = {}
    for state in STATES:
        found[state] = []
    for edge in edges_of(table):
        found[edge[0]].append(edge)
    return found
