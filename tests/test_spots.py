"""Points 17 and 18: spots, which of them are ends, and the steps from spot to spot."""

import unittest

from dots.edges import edges_of
from dots.spots import FIRST, is_end, steps_by
from dots.tables import made_table
from samples import A, FIGURES, FULL, NO_MARKS, ONE, PLAIN, STATES, TABLES, edges_again, some_tables, steps_again


def state_spots():
    return [(state, (), "") for state in STATES]


def inner_spots(table):
    """All spots within the edges of a table."""
    return sorted({(other, cells[k:], text) for state, text, cells, other in edges_again(table)
                   for k in range(1, len(cells))})


class FirstTest(unittest.TestCase):
    def test_the_first_spot(self):
        self.assertEqual(FIRST, ("out", (), ""))
        self.assertEqual([type(part) for part in FIRST], [str, tuple, str])
        self.assertIs(type(FIRST), tuple)


class EndTest(unittest.TestCase):
    def test_states(self):
        told = {spot[0]: is_end(spot) for spot in state_spots()}
        self.assertEqual(told, {"out": True, "in": False, "done": True, "num": True, "let": False, "all": False})
        self.assertEqual({type(truth) for truth in told.values()}, {bool})

    def test_within_an_edge_is_no_end(self):
        for state in STATES:
            for text in ["", "a", " "]:
                self.assertIs(is_end((state, (1,), text)), False)
                self.assertIs(is_end((state, (1, 2, 3, 4, 5), text)), False)

    def test_arguments_bear_their_names(self):
        self.assertIs(is_end(spot=FIRST), True)


class StepsTest(unittest.TestCase):
    def test_from_out(self):
        self.assertEqual(steps_by(FULL, FIRST, 0), [(("out", (), ""), " ")])
        self.assertEqual(steps_by(FULL, FIRST, 1), [(("done", (), ""), "a"), (("in", (), ""), "a")])
        self.assertEqual(steps_by(FULL, FIRST, 5), [(("done", (), ""), "ab"), (("in", (), ""), "ab")])
        self.assertEqual(steps_by(FULL, FIRST, 60), [
            (("num", (1,), "1"), ""), (("num", (3,), "2"), ""), (("num", (26,), "0"), "")])
        self.assertEqual(steps_by(FULL, FIRST, 32), [
            (("all", (6, 1), "A"), ""), (("all", (6, 3), "B"), ""), (("all", (6, 5), "AB"), ""),
            (("done", (1,), "A"), ""), (("done", (3,), "B"), ""), (("done", (5,), "Ab"), ""),
            (("done", (6, 5), "AB"), ""),
            (("in", (1,), "A"), ""), (("in", (3,), "B"), ""), (("in", (5,), "Ab"), "")])

    def test_from_in(self):
        spot = ("in", (), "")
        self.assertEqual(steps_by(FULL, spot, 0), [])
        self.assertEqual(steps_by(FULL, spot, 1), [
            (("done", (), ""), "a"), (("in", (), ""), "a"), (("in", (5,), "aab"), "")])
        self.assertEqual(steps_by(FULL, spot, 5), [(("done", (), ""), "ab")])
        self.assertEqual(steps_by(FULL, spot, 60), [])

    def test_from_done(self):
        spot = ("done", (), "")
        self.assertEqual(steps_by(FULL, spot, 0), [(("out", (), ""), " ")])
        self.assertEqual(steps_by(FULL, spot, 1), [])
        self.assertEqual(steps_by(FULL, spot, 60), [
            (("num", (1,), "1"), ""), (("num", (3,), "2"), ""), (("num", (26,), "0"), "")])

    def test_from_num(self):
        spot = ("num", (), "")
        self.assertEqual(steps_by(FULL, spot, 0), [(("out", (), ""), " ")])
        self.assertEqual(steps_by(FULL, spot, 1), [(("num", (), ""), "1")])
        self.assertEqual(steps_by(FULL, spot, 60), [])
        self.assertEqual(steps_by(ONE, spot, 0), [(("out", (), ""), " ")])

    def test_from_let(self):
        spot = ("let", (), "")
        self.assertEqual(steps_by(FULL, spot, 1), [(("done", (), ""), "a"), (("in", (), ""), "a")])
        self.assertEqual(steps_by(FULL, spot, 0), [])
        self.assertEqual(steps_by(FULL, spot, 60), [])
        self.assertEqual(steps_by(FULL, spot, 32), steps_by(FULL, FIRST, 32))
        # Without figures there are no edges from here.
        self.assertEqual(steps_by(ONE, spot, 1), [])

    def test_from_all(self):
        spot = ("all", (), "")
        self.assertEqual(steps_by(FULL, spot, 1), [
            (("all", (), ""), "A"), (("all", (5,), "AAB"), ""), (("done", (), ""), "A")])
        self.assertEqual(steps_by(FULL, spot, 32), [])
        self.assertEqual(steps_by(ONE, spot, 1), [])

    def test_edges_whose_text_is_of_no_signs(self):
        self.assertEqual(steps_by(FULL, ("num", (), ""), 48), [(("let", (), ""), "")])
        self.assertEqual(steps_by(FIGURES, ("num", (), ""), 48), [(("let", (60,), ""), "")])
        self.assertEqual(steps_by(FIGURES, ("let", (60,), ""), 60), [(("let", (), ""), "")])
        self.assertEqual(steps_by(FIGURES, ("let", (60,), ""), 48), [])

    def test_within_an_edge(self):
        self.assertEqual(steps_by(FULL, ("all", (6, 5), "AB"), 6), [(("all", (5,), "AB"), "")])
        self.assertEqual(steps_by(FULL, ("all", (5,), "AB"), 5), [(("all", (), ""), "AB")])
        for cell in [0, 1, 5, 32, 63]:
            self.assertEqual(steps_by(FULL, ("all", (6, 5), "AB"), cell), [])
        self.assertEqual(steps_by(FULL, ("num", (26,), "0"), 26), [(("num", (), ""), "0")])
        self.assertEqual(steps_by(FULL, ("num", (26,), "0"), 0), [])

    def test_a_whole_walk(self):
        table = made_table([A, ("aa", (7, 8, 9, 10), "b")], ((32, 33), (), (), ()), ())
        spot = FIRST
        rest = (32, 33, 7, 8, 9, 10)
        for cell in rest[:-1]:
            rest = rest[1:]
            self.assertIn((("in", rest, "Aa"), ""), steps_by(table, spot, cell))
            spot = ("in", rest, "Aa")
        self.assertEqual(steps_by(table, spot, 10), [(("in", (), ""), "Aa")])

    def test_spots_that_no_edge_has(self):
        self.assertEqual(steps_by(ONE, ("let", (9, 8, 7, 6, 5), "x\ny~"), 9), [(("let", (8, 7, 6, 5), "x\ny~"), "")])
        self.assertEqual(steps_by(ONE, ("let", (9,), "x\ny~"), 9), [(("let", (), ""), "x\ny~")])
        self.assertEqual(steps_by(ONE, ("out", (63,), ""), 63), [(("out", (), ""), "")])
        self.assertEqual(steps_by(ONE, ("num", (63,), "a" * 200), 63), [(("num", (), ""), "a" * 200)])
        self.assertEqual(steps_by(ONE, ("out", (63,), " "), 0), [])
        for state in STATES:
            self.assertEqual(steps_by(ONE, (state, (1, 1), "a"), 1), [((state, (1,), "a"), "")])

    def test_sorted_by_spots_then_texts(self):
        # The edges of these forms are sorted otherwise than their steps.
        table = made_table([A, ("b", (1,), "wbme"), ("aa", (1,), "w"), ("ab", (1, 9), "w"), ("ba", (1, 2), "w")],
                           NO_MARKS, ())
        self.assertEqual(steps_by(table, FIRST, 1), [
            (("done", (), ""), "a"), (("done", (), ""), "aa"), (("done", (), ""), "b"),
            (("done", (2,), "ba"), ""), (("done", (9,), "ab"), ""),
            (("in", (), ""), "a"), (("in", (), ""), "b")])

    def test_many_tables(self):
        for table in TABLES + some_tables(25) + some_tables(25, top=2, seed=8):
            edges = edges_again(table)
            cells = sorted({cell for edge in edges for cell in edge[2]} | {0, 62, 63})
            for spot in state_spots() + inner_spots(table)[::4]:
                for cell in cells:
                    self.assertEqual(steps_by(table, spot, cell), sorted(steps_again(edges, spot, cell)))

    def test_all_cells(self):
        for spot in state_spots() + inner_spots(PLAIN):
            for cell in range(64):
                self.assertEqual(steps_by(PLAIN, spot, cell), sorted(steps_again(edges_of(PLAIN), spot, cell)))

    def test_kinds(self):
        for spot in state_spots() + inner_spots(FULL):
            for cell in [0, 1, 5, 6, 32, 48, 60]:
                told = steps_by(FULL, spot, cell)
                self.assertIs(type(told), list)
                self.assertEqual(told, sorted(set(told)))
                for step in told:
                    self.assertIs(type(step), tuple)
                    self.assertEqual([type(part) for part in step], [tuple, str])
                    self.assertEqual([type(part) for part in step[0]], [str, tuple, str])

    def test_the_list_told_is_the_askers_own(self):
        for spot, cell in [(FIRST, 1), (FIRST, 32), (("all", (6, 5), "AB"), 6), (("in", (), ""), 0)]:
            told = steps_by(FULL, spot, cell)
            before = list(told)
            told.append(1)
            told.reverse()
            other = steps_by(FULL, spot, cell)
            self.assertEqual(other, before)
            steps_by(ONE, FIRST, 1)
            self.assertEqual(other, before)

    def test_arguments_bear_their_names(self):
        self.assertEqual(steps_by(table=ONE, spot=FIRST, cell=0), [(FIRST, " ")])


if __name__ == "__main__":
    unittest.main()
