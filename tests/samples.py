"""Tables that the tests share, and the document's words on edges, writings and walks told over, plainly and slowly."""

import random

from dots.tables import made_table

A = ("a", (1,), "wbme")
B = ("b", (3,), "wbme")
C = ("c", (9,), "wbme")
NO_MARKS = ((), (), (), ())
STATES = ["out", "in", "done", "num", "let", "all"]
ENDS = ["out", "done", "num"]

ONE = made_table([A], NO_MARKS, ())
PLAIN = made_table([A, B, ("ab", (5,), "we"), ("ba", (3, 7), "bm"), ("abb", (2,), "m")], NO_MARKS, ())
GREAT = made_table([A, B, ("ab", (5,), "wb"), ("ba", (3,), "e")], ((32,), (), (), ()), ())
ALL_GREAT = made_table([A, B, ("ab", (5,), "we"), ("ba", (1, 3), "bm")], ((32,), (32, 32), (), ()), ())
FIGURES = made_table([A, B, ("ab", (5,), "w"), ("bb", (3,), "be")], ((), (), (60,), (48, 60)), (26, 1))
FULL = made_table([A, B, ("ab", (5,), "wbe"), ("aab", (1, 5), "m")], ((32,), (32, 6), (60,), (48,)), (26, 1, 3))
# Here nearly all is written alike, so rows have many readings and texts writings of many lengths.
ALIKE = made_table(
    [("a", (1,), "wbme"), ("a", (1, 1), "wbme"), ("b", (1,), "wbme"), ("b", (1, 2, 1, 1), "bm"), ("ab", (1,), "w")],
    ((1,), (1, 1), (1,), (1, 1)), (1, 2))
TABLES = [ONE, PLAIN, GREAT, ALL_GREAT, FIGURES, FULL, ALIKE]


def great_first(letters):
    return letters[0].upper() + letters[1:]


def form_edges(letters, cells, places, marks):
    """The edges of one form, place by place."""
    edges = set()
    ways = {"w": [("out", "done"), ("let", "done")], "b": [("out", "in"), ("let", "in")], "m": [("in", "in")],
            "e": [("in", "done")]}
    for place in places:
        for state, other in ways[place]:
            edges.add((state, letters, cells, other))
            if marks[0]:
                edges.add((state, great_first(letters), marks[0] + cells, other))
    if marks[1]:
        for state in ("out", "let"):
            if "w" in places and len(letters) >= 2:
                edges.add((state, letters.upper(), marks[1] + cells, "done"))
            if "b" in places:
                edges.add((state, letters.upper(), marks[1] + cells, "all"))
        if "m" in places:
            edges.add(("all", letters.upper(), cells, "all"))
        if "e" in places:
            edges.add(("all", letters.upper(), cells, "done"))
    return edges


def edges_again(table):
    """The edges of a table as point 12 tells them."""
    forms, marks, figures = table
    edges = {("out", " ", (0,), "out"), ("done", " ", (0,), "out"), ("num", " ", (0,), "out")}
    for figure, cell in enumerate(figures):
        edges.add(("out", str(figure), marks[2] + (cell,), "num"))
        edges.add(("done", str(figure), marks[2] + (cell,), "num"))
        edges.add(("num", str(figure), (cell,), "num"))
    if figures:
        edges.add(("num", "", marks[3], "let"))
    for letters, cells, places in forms:
        edges |= form_edges(letters, cells, places, marks)
    return sorted(edge for edge in edges if figures or edge[0] != "let")


def rows_from(edges, text, state):
    """All rows by which the text can be written from this state to an end."""
    rows = {()} if text == "" and state in ENDS else set()
    for here, letters, cells, other in edges:
        if here == state and text.startswith(letters):
            rows |= {cells + row for row in rows_from(edges, text[len(letters):], other)}
    return rows


def texts_of_rows(table, most):
    """Each row of at most so many cells that is a writing, with the set of its texts."""
    edges = edges_again(table)
    found = {}
    walks = [("out", "", ())]
    seen = set(walks)
    while walks:
        state, text, row = walks.pop()
        if state in ENDS:
            found.setdefault(row, set()).add(text)
        for here, letters, cells, other in edges:
            walk = (other, text + letters, row + cells)
            if here == state and len(walk[2]) <= most and walk not in seen:
                seen.add(walk)
                walks.append(walk)
    return found


def beginnings(table, most):
    """All rows of at most so many cells that are the beginning of some writing."""
    edges = edges_again(table)
    found = {()}
    walks = [("out", ())]
    seen = set(walks)
    while walks:
        state, row = walks.pop()
        for here, letters, cells, other in edges:
            if here == state:
                # By point 16 one can go on to an end from wherever one has come to.
                found |= {(row + cells)[:count] for count in range(most + 1)}
                walk = (other, row + cells)
                if len(walk[1]) <= most and walk not in seen:
                    seen.add(walk)
                    walks.append(walk)
    return found


def steps_again(edges, spot, cell):
    """The set of the steps from a spot by a cell, as points 17 and 18 tell them."""
    state, rest, text = spot
    if rest:
        ways = [(text, rest, state)] if rest[0] == cell else []
    else:
        ways = [(letters, cells, other) for here, letters, cells, other in edges if here == state and cells[0] == cell]
    inside = {((other, cells[1:], letters), "") for letters, cells, other in ways if len(cells) > 1}
    return inside | {((other, (), ""), letters) for letters, cells, other in ways if len(cells) == 1}


def spots_of_rows(table):
    """All sets of spots such that some row leads to just these from the first spot."""
    edges = edges_again(table)
    signs = {cell for edge in edges for cell in edge[2]}
    found = {frozenset([("out", (), "")])}
    waiting = list(found)
    while waiting:
        spots = waiting.pop()
        for cell in signs:
            behind = frozenset(step[0] for spot in spots for step in steps_again(edges, spot, cell))
            if behind and behind not in found:
                found.add(behind)
                waiting.append(behind)
    return found


def twins_again(table):
    """The set of all twins of a table: by point 20 any two of the spots to which one row leads."""
    return {(one, other) for spots in spots_of_rows(table) for one in spots for other in spots}


def some_cells(chance, least, most, top):
    return tuple(chance.randint(1, top) for k in range(chance.randint(least, most)))


def some_form(chance, signs, top):
    letters = "".join(chance.choice(signs) for k in range(chance.randint(1, 4)))
    places = "".join(place for place in "wbme" if chance.random() < 0.5) or chance.choice("wbme")
    return (letters, some_cells(chance, 1, 3, top), places)


def some_table(chance, top):
    """A table of a few letters, with cells from 1 to top."""
    signs = "abc"[:chance.randint(1, 3)]
    forms = {(sign, some_cells(chance, 1, 2, top)): "wbme" for sign in signs}
    for k in range(chance.randint(0, 4)):
        letters, cells, places = some_form(chance, signs, top)
        forms.setdefault((letters, cells), places)
    forms = [entry + (places,) for entry, places in forms.items()]
    great = some_cells(chance, 0, 2, top)
    whole = some_cells(chance, 0, 2, top) if great else ()
    figures = some_cells(chance, 0, 2, top)
    least = 1 if figures else 0
    others = [some_cells(chance, least, 2 * least, top) for k in range(2)]
    return made_table(forms, [great, whole] + others, figures)


def some_tables(count, top=63, seed=7):
    """Always the same tables for the same count, top and seed."""
    chance = random.Random(seed)
    return [some_table(chance, top) for k in range(count)]
