"""Tables that the tests share, and the document's words on edges, writings and walks told over, plainly and slowly."""

import os.path
import random

from dots.tables import made_table

A = ("a", (1,), "wbme")
B = ("b", (3,), "wbme")
C = ("c", (9,), "wbme")
NO_MARKS = ((), (), (), ())
STATES = ["out", "in", "done", "num", "let", "all"]
ENDS = ["out", "done", "num"]

ONE = made_table([A], NO_MARKS, ())
PLAIN = made_table([A, B, ("ab", (5,), "we"), ("ba", (3, 7), "bm"), ("abb", (2,), "m")], NO_MARKS, ())
GREAT = made_table([A, B, ("ab", (5,), "wb"), ("ba", (3,), "e")], ((32,), (), (), ()), ())
ALL_GREAT = made_table([A, B, ("ab", (5,), "we"), ("ba", (1, 3), "bm")], ((32,), (32, 32), (), ()), ())
FIGURES = made_table([A, B, ("ab", (5,), "w"), ("bb", (3,), "be")], ((), (), (60,), (48, 60)), (26, 1))
FULL = made_table([A, B, ("ab", (5,), "wbe"), ("aab", (1, 5), "m")], ((32,), (32, 6), (60,), (48,)), (26, 1, 3))
# Here nearly all is written alike, so rows have many readings and texts writings of many lengths.
ALIKE = made_table(
    [("a", (1,), "wbme"), ("a", (1, 1), "wbme"), ("b", (1,), "wbme"), ("b", (1, 2, 1, 1), "bm"), ("ab", (1,), "w")],
    ((1,), (1, 1), (1,), (1, 1)), (1, 2))
TABLES = [ONE, PLAIN, GREAT, ALL_GREAT, FIGURES, FULL, ALIKE]
# Sure tables of just 2,000 and of 2,001 twins.
NINE = tuple((letter, (1, 1, number + 1), "wbme") for number, letter in enumerate("abcdefghi"))
LARGE = made_table(NINE, ((40, 41), (), (48,), (50,)), (1, 2, 3, 4, 5, 6, 7))
LARGER = made_table(NINE, ((40, 41), (), (48,), (50, 51)), (1, 2, 3, 4, 5, 6, 7))


def great_first(letters):
    return letters[0].upper() + letters[1:]


def form_edges(letters, cells, places, marks):
    """The edges of one form, place by place."""
    edges = set()
    ways = {"w": [("out", "done"), ("let", "done")], "b": [("out", "in"), ("let", "in")], "m": [("in", "in")],
            "e": [("in", "done")]}
    for place in places:
        for state, other in ways[place]:
            edges.add((state, letters, cells, other))
            if marks[0]:
                edges.add((state, great_first(letters), marks[0] + cells, other))
    if marks[1]:
        for state in ("out", "let"):
            if "w" in places and len(letters) >= 2:
                edges.add((state, letters.upper(), marks[1] + cells, "done"))
            if "b" in places:
                edges.add((state, letters.upper(), marks[1] + cells, "all"))
        if "m" in places:
            edges.add(("all", letters.upper(), cells, "all"))
        if "e" in places:
            edges.add(("all", letters.upper(), cells, "done"))
    return edges


def edges_again(table):
    """The edges of a table as point 12 tells them."""
    forms, marks, figures = table
    edges = {("out", " ", (0,), "out"), ("done", " ", (0,), "out"), ("num", " ", (0,), "out")}
    for figure, cell in enumerate(figures):
        edges.add(("out", str(figure), marks[2] + (cell,), "num"))
        edges.add(("done", str(figure), marks[2] + (cell,), "num"))
        edges.add(("num", str(figure), (cell,), "num"))
    if figures:
        edges.add(("num", "", marks[3], "let"))
    for letters, cells, places in forms:
        edges |= form_edges(letters, cells, places, marks)
    return sorted(edge for edge in edges if figures or edge[0] != "let")


def rows_from(edges, text, state):
    """All rows by which the text can be written from this state to an end."""
    rows = {()} if text == "" and state in ENDS else set()
    for here, letters, cells, other in edges:
        if here == state and text.startswith(letters):
            rows |= {cells + row for row in rows_from(edges, text[len(letters):], other)}
    return rows


def texts_of_rows(table, most):
    """Each row of at most so many cells that is a writing, with the set of its texts."""
    edges = edges_again(table)
    found = {}
    walks = [("out", "", ())]
    seen = set(walks)
    while walks:
        state, text, row = walks.pop()
        if state in ENDS:
            found.setdefault(row, set()).add(text)
        for here, letters, cells, other in edges:
            walk = (other, text + letters, row + cells)
            if here == state and len(walk[2]) <= most and walk not in seen:
                seen.add(walk)
                walks.append(walk)
    return found


def beginnings(table, most):
    """All rows of at most so many cells that are the beginning of some writing."""
    edges = edges_again(table)
    found = {()}
    walks = [("out", ())]
    seen = set(walks)
    while walks:
        state, row = walks.pop()
        for here, letters, cells, other in edges:
            if here == state:
                # By point 16 one can go on to an end from wherever one has come to.
                found |= {(row + cells)[:count] for count in range(most + 1)}
                walk = (other, row + cells)
                if len(walk[1]) <= most and walk not in seen:
                    seen.add(walk)
                    walks.append(walk)
    return found


def steps_again(edges, spot, cell):
    """The set of the steps from a spot by a cell, as points 17 and 18 tell them."""
    state, rest, text = spot
    if rest:
        ways = [(text, rest, state)] if rest[0] == cell else []
    else:
        ways = [(letters, cells, other) for here, letters, cells, other in edges if here == state and cells[0] == cell]
    inside = {((other, cells[1:], letters), "") for letters, cells, other in ways if len(cells) > 1}
    return inside | {((other, (), ""), letters) for letters, cells, other in ways if len(cells) == 1}


def spots_of_rows(table):
    """All sets of spots such that some row leads to just these from the first spot."""
    edges = edges_again(table)
    signs = {cell for edge in edges for cell in edge[2]}
    found = {frozenset([("out", (), "")])}
    waiting = list(found)
    while waiting:
        spots = waiting.pop()
        for cell in signs:
            behind = frozenset(step[0] for spot in spots for step in steps_again(edges, spot, cell))
            if behind and behind not in found:
                found.add(behind)
                waiting.append(behind)
    return found


def twins_again(table):
    """The set of all twins of a table: by point 20 any two of the spots to which one row leads."""
    return {(one, other) for spots in spots_of_rows(table) for one in spots for other in spots}


def ways_again(edges, twin):
    """All (cell, told by the one, told by the other, twin behind) from a twin on."""
    ways = []
    for cell in {edge[2][0] for edge in edges} | {spot[1][0] for spot in twin if spot[1]}:
        for one, text in steps_again(edges, twin[0], cell):
            for other, other_text in steps_again(edges, twin[1], cell):
                ways.append((cell, text, other_text, (one, other)))
    return ways


def are_ends(twin):
    return all(rest == () and state in ENDS for state, rest, text in twin)


def lives_again(table):
    """The set of the live twins of a table, and the set of the dead ones, as point 20 tells them."""
    edges = edges_again(table)
    twins = twins_again(table)
    behind = {twin: {way[3] for way in ways_again(edges, twin)} for twin in twins}
    lives = {twin for twin in twins if are_ends(twin)}
    count = 0
    while count < len(lives):
        count = len(lives)
        lives |= {twin for twin in twins if behind[twin] & lives}
    return lives, twins - lives


def beyond(one, other):
    """What two texts have beyond the longest beginning that both have."""
    count = len(os.path.commonprefix([one, other]))
    return one[count:], other[count:]


def told_again(table):
    """For each live twin what is told ahead and behind there, as point 21 tells it; None where the table isn't sure."""
    edges = edges_again(table)
    lives = lives_again(table)[0]
    first = (("out", (), ""), ("out", (), ""))
    told = {first: ("", "")}
    waiting = [first]
    while waiting:
        twin = waiting.pop()
        for cell, text, other_text, behind in ways_again(edges, twin):
            if behind in lives:
                there = beyond(told[twin][0] + text, told[twin][1] + other_text)
                if all(there) or are_ends(behind) and any(there) or told.get(behind, there) != there:
                    return None
                if behind not in told:
                    told[behind] = there
                    waiting.append(behind)
    return told


def some_cells(chance, least, most, top):
    return tuple(chance.randint(1, top) for k in range(chance.randint(least, most)))


def some_form(chance, signs, top):
    letters = "".join(chance.choice(signs) for k in range(chance.randint(1, 4)))
    places = "".join(place for place in "wbme" if chance.random() < 0.5) or chance.choice("wbme")
    return (letters, some_cells(chance, 1, 3, top), places)


def some_table(chance, top):
    """A table of a few letters, with cells from 1 to top."""
    signs = "abc"[:chance.randint(1, 3)]
    forms = {(sign, some_cells(chance, 1, 2, top)): "wbme" for sign in signs}
    for k in range(chance.randint(0, 4)):
        letters, cells, places = some_form(chance, signs, top)
        forms.setdefault((letters, cells), places)
    forms = [entry + (places,) for entry, places in forms.items()]
    great = some_cells(chance, 0, 2, top)
    whole = some_cells(chance, 0, 2, top) if great else ()
    figures = some_cells(chance, 0, 2, top)
    least = 1 if figures else 0
    others = [some_cells(chance, least, 2 * least, top) for k in range(2)]
    return made_table(forms, [great, whole] + others, figures)


def some_tables(count, top=63, seed=7):
    """Always the same tables for the same count, top and seed."""
    chance = random.Random(seed)
    return [some_table(chance, top) for k in range(count)]


def sure_table(chance):
    """A table in which forms of several letters are written by the cells of the letters: so it is sure."""
    alone = {letter: (number + 1,) * chance.randint(1, 2) for number, letter in enumerate("abc")}
    forms = {(letter, cells): "wbme" for letter, cells in alone.items()}
    for k in range(chance.randint(1, 5)):
        letters = "".join(chance.choice("abc") for sign in range(chance.randint(2, 4)))
        cells = sum((alone[letter] for letter in letters), ())
        if len(cells) <= 4:
            forms[(letters, cells)] = some_form(chance, "a", 1)[2]
    forms = [entry + (places,) for entry, places in forms.items()]
    great = chance.choice([(), (30,), (30, 31)])
    whole = chance.choice([(), (32,), (32, 33)]) if great else ()
    figures = chance.choice([(), (1,), (1, 2)])
    number = (40,) if figures else ()
    return made_table(forms, [great, whole, number, number], figures)


def sure_tables(count, seed=7):
    """Always the same tables for the same count and seed."""
    chance = random.Random(seed)
    return [sure_table(chance) for k in range(count)]


def some_text(chance, signs, most):
    return "".join(chance.choice(signs) for k in range(chance.randint(0, most)))


def places_to_end(edges, text):
    """All (place, state) from which the rest of the text can be written to an end."""
    found = {(len(text), state) for state in ENDS}
    for place in range(len(text), -1, -1):
        # Once more for the edge without a text, which stays at its place.
        for state, letters, cells, other in edges + edges:
            if text.startswith(letters, place) and (place + len(letters), other) in found:
                found.add((place, state))
    return found


def some_writing(chance, table, text):
    """Any writing of a text of the table, drawn edge by edge."""
    edges = edges_again(table)
    found = places_to_end(edges, text)
    row = ()
    place = 0
    state = "out"
    while place < len(text):
        letters, cells, state = chance.choice([
            edge[1:] for edge in edges
            if edge[0] == state and text.startswith(edge[1], place) and (place + len(edge[1]), edge[3]) in found])
        row += cells
        place += len(letters)
    return row
