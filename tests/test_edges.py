"""Points 11 and 12: the states in which a writing may end, and the edges of a table."""

import unittest

from dots.edges import edges_of, may_end
from dots.tables import made_table
from samples import A, FULL, NO_MARKS, STATES, TABLES, edges_again, some_tables

BLANKS = [("done", " ", (0,), "out"), ("num", " ", (0,), "out"), ("out", " ", (0,), "out")]


class EndTest(unittest.TestCase):
    def test_states(self):
        told = {state: may_end(state) for state in STATES}
        self.assertEqual(told, {"out": True, "in": False, "done": True, "num": True, "let": False, "all": False})
        self.assertEqual({type(truth) for truth in told.values()}, {bool})

    def test_arguments_bear_their_names(self):
        self.assertIs(may_end(state="in"), False)


class EdgesTest(unittest.TestCase):
    def assert_edges(self, table, edges):
        self.assertEqual(edges_of(table), sorted(BLANKS + edges))

    def test_without_marks(self):
        self.assertEqual(edges_of(made_table([A], NO_MARKS, ())), [
            ("done", " ", (0,), "out"),
            ("in", "a", (1,), "done"),
            ("in", "a", (1,), "in"),
            ("num", " ", (0,), "out"),
            ("out", " ", (0,), "out"),
            ("out", "a", (1,), "done"),
            ("out", "a", (1,), "in"),
        ])

    def assert_more(self, form, marks, more):
        """That by this form a table with the form of a has these edges more."""
        small = edges_of(made_table([A], marks, ()))
        told = edges_of(made_table([A, form], marks, ()))
        self.assertEqual(sorted(set(told) - set(small)), sorted(more))
        self.assertEqual(len(told), len(small) + len(more))

    def test_each_place(self):
        self.assert_more(("aaa", (5, 6), "w"), NO_MARKS, [("out", "aaa", (5, 6), "done")])
        self.assert_more(("aaa", (5, 6), "b"), NO_MARKS, [("out", "aaa", (5, 6), "in")])
        self.assert_more(("aaa", (5, 6), "m"), NO_MARKS, [("in", "aaa", (5, 6), "in")])
        self.assert_more(("aaa", (5, 6), "e"), NO_MARKS, [("in", "aaa", (5, 6), "done")])
        self.assert_more(("a", (5,), "we"), NO_MARKS, [("out", "a", (5,), "done"), ("in", "a", (5,), "done")])

    def test_each_place_with_mark_0(self):
        marks = ((32, 2), (), (), ())
        for place, state, other in [("w", "out", "done"), ("b", "out", "in"), ("m", "in", "in"), ("e", "in", "done")]:
            self.assert_more(("aaa", (5,), place), marks, [
                (state, "aaa", (5,), other), (state, "Aaa", (32, 2, 5), other)])
            self.assert_more(("a", (5,), place), marks, [
                (state, "a", (5,), other), (state, "A", (32, 2, 5), other)])

    def test_each_place_with_marks_0_and_1(self):
        marks = ((32,), (32, 2), (), ())
        for letters in ["a", "aa", "aaaaaa"]:
            great = "A" + letters[1:]
            whole = letters.upper()
            self.assert_more((letters, (5, 4), "b"), marks, [
                ("out", letters, (5, 4), "in"), ("out", great, (32, 5, 4), "in"), ("out", whole, (32, 2, 5, 4), "all")])
            self.assert_more((letters, (5, 4), "m"), marks, [
                ("in", letters, (5, 4), "in"), ("in", great, (32, 5, 4), "in"), ("all", whole, (5, 4), "all")])
            self.assert_more((letters, (5, 4), "e"), marks, [
                ("in", letters, (5, 4), "done"), ("in", great, (32, 5, 4), "done"), ("all", whole, (5, 4), "done")])

    def test_a_whole_word_all_great_has_two_letters_or_more(self):
        marks = ((32,), (32, 2), (), ())
        self.assert_more(("aa", (5,), "w"), marks, [
            ("out", "aa", (5,), "done"), ("out", "Aa", (32, 5), "done"), ("out", "AA", (32, 2, 5), "done")])
        self.assert_more(("a", (5,), "w"), marks, [("out", "a", (5,), "done"), ("out", "A", (32, 5), "done")])

    def test_with_mark_0_alone(self):
        self.assert_edges(made_table([A], ((32,), (), (), ()), ()), [
            ("in", "A", (32, 1), "done"), ("in", "A", (32, 1), "in"), ("in", "a", (1,), "done"),
            ("in", "a", (1,), "in"), ("out", "A", (32, 1), "done"), ("out", "A", (32, 1), "in"),
            ("out", "a", (1,), "done"), ("out", "a", (1,), "in"),
        ])

    def test_with_figures(self):
        self.assert_edges(made_table([A], ((), (), (60, 3), (48,)), (26, 1)), [
            ("in", "a", (1,), "done"), ("in", "a", (1,), "in"),
            ("let", "a", (1,), "done"), ("let", "a", (1,), "in"),
            ("out", "a", (1,), "done"), ("out", "a", (1,), "in"),
            ("out", "0", (60, 3, 26), "num"), ("done", "0", (60, 3, 26), "num"), ("num", "0", (26,), "num"),
            ("out", "1", (60, 3, 1), "num"), ("done", "1", (60, 3, 1), "num"), ("num", "1", (1,), "num"),
            ("num", "", (48,), "let"),
        ])

    def test_ten_figures(self):
        told = edges_of(made_table([A], ((), (), (60,), (48,)), tuple(range(20, 30))))
        self.assertEqual([edge for edge in told if edge[0] == "num" and edge[3] == "num"],
                         [("num", str(k), (20 + k,), "num") for k in range(10)])
        self.assertEqual([edge for edge in told if edge[0] == "done" and edge[3] == "num"],
                         [("done", str(k), (60, 20 + k), "num") for k in range(10)])

    def test_with_all_of_them(self):
        form = ("ab", (5,), "wb")
        table = made_table([A, ("b", (3,), "wbme"), form], ((32,), (6,), (60,), (48,)), (26,))
        less = made_table([A, ("b", (3,), "wbme")], ((32,), (6,), (60,), (48,)), (26,))
        more = []
        for state in ("out", "let"):
            more += [(state, "ab", (5,), "done"), (state, "ab", (5,), "in"), (state, "Ab", (32, 5), "done"),
                     (state, "Ab", (32, 5), "in"), (state, "AB", (6, 5), "done"), (state, "AB", (6, 5), "all")]
        self.assertEqual(edges_of(table), sorted(edges_of(less) + more))

    def test_edges_from_let_only_where_there_are_figures(self):
        for marks in [NO_MARKS, ((32,), (), (), ()), ((32,), (6,), (), ())]:
            states = {edge[0] for edge in edges_of(made_table([A, ("aa", (5,), "wbme")], marks, ()))}
            self.assertNotIn("let", states)
        self.assertIn("let", {edge[0] for edge in edges_of(FULL)})

    def test_many_tables(self):
        for table in TABLES + some_tables(150) + some_tables(150, top=2, seed=8):
            self.assertEqual(edges_of(table), edges_again(table))

    def test_sorted_and_each_once(self):
        for table in TABLES + some_tables(50, top=1):
            told = edges_of(table)
            self.assertEqual(told, sorted(set(told)))

    def test_kinds(self):
        told = edges_of(FULL)
        self.assertIs(type(told), list)
        for edge in told:
            self.assertIs(type(edge), tuple)
            self.assertEqual([type(part) for part in edge], [str, str, tuple, str])
            self.assertEqual({type(cell) for cell in edge[2]}, {int})

    def test_the_list_told_is_the_askers_own(self):
        told = edges_of(FULL)
        before = list(told)
        told.reverse()
        told.pop()
        self.assertEqual(edges_of(FULL), before)
        other = edges_of(FULL)
        edges_of(made_table([A], NO_MARKS, ()))
        self.assertEqual(other, before)

    def test_arguments_bear_their_names(self):
        self.assertEqual(len(edges_of(table=made_table([A], NO_MARKS, ()))), 7)


if __name__ == "__main__":
    unittest.main()
