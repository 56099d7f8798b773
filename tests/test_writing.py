"""Points 13, 14 and 15, and of point 4 the fewest cells: prices, writings, whether a row is a writing."""

import itertools
import random
import unittest

from dots.edges import edges_of
from dots.errors import DotError, NoSign
from dots.tables import made_table, signs_of
from dots.writing import is_written, prices, written
from samples import (
    A, ALIKE, ALL_GREAT, B, ENDS, FIGURES, FULL, GREAT, NO_MARKS, ONE, PLAIN, STATES, TABLES, edges_again, rows_from,
    some_tables,
)

STRANGE = "\n!-.~Zz9"


def short_texts(table, count, longest, seed=3):
    """Some texts of the table's signs, the one of none and those of one sign among them."""
    chance = random.Random(seed)
    signs = signs_of(table)
    texts = ["".join(chance.choices(signs, k=chance.randint(2, longest))) for k in range(count)]
    return [""] + list(signs) + texts


class Written(unittest.TestCase):
    def assert_writing(self, table, text, count=None):
        """That the steps told are edges that write the text by the row; and that it has so many cells."""
        told = written(table, text)
        self.assertIs(type(told), tuple)
        row, steps = told
        self.assertIs(type(row), tuple)
        self.assertIs(type(steps), list)
        edges = edges_of(table)
        state = "out"
        for step in steps:
            self.assertIs(type(step), tuple)
            self.assertIn(step, edges)
            self.assertEqual(step[0], state)
            state = step[3]
        self.assertIn(state, ENDS)
        self.assertEqual("".join(step[1] for step in steps), text)
        self.assertEqual(tuple(cell for step in steps for cell in step[2]), row)
        self.assertEqual(len(row), prices(table, text)[0][0])
        if count is not None:
            self.assertEqual(len(row), count, (text, row))
        return row


class WrittenTest(Written):
    def test_the_text_of_none(self):
        for table in TABLES:
            self.assertEqual(written(table, ""), ((), []))

    def test_one_way_alone(self):
        table = made_table([A, B], ((32,), (), (60,), (48,)), (26, 1))
        for text, row in [("a", (1,)), ("ab", (1, 3)), (" ", (0,)), ("a b", (1, 0, 3)), ("  a ", (0, 0, 1, 0)),
                          ("A", (32, 1)), ("aB", (1, 32, 3)), ("0", (60, 26)), ("01", (60, 26, 1)),
                          ("a0", (1, 60, 26)), ("0a", (60, 26, 48, 1)), ("1Ab0", (60, 1, 48, 32, 1, 3, 60, 26)),
                          ("0 1", (60, 26, 0, 60, 1)), ("0 a", (60, 26, 0, 1))]:
            self.assertEqual(written(table, text)[0], row, text)
            self.assert_writing(table, text, len(row))

    def test_steps(self):
        table = made_table([A, B], ((), (), (60,), (48,)), (26, 1))
        self.assertEqual(written(table, "0ab 1"), ((60, 26, 48, 1, 3, 0, 60, 1), [
            ("out", "0", (60, 26), "num"), ("num", "", (48,), "let"), ("let", "a", (1,), "in"),
            ("in", "b", (3,), "done"), ("done", " ", (0,), "out"), ("out", "1", (60, 1), "num")]))

    def test_forms_stand_at_their_places_alone(self):
        for places, counts in [("w", (1, 3, 3, 4)), ("b", (2, 2, 3, 4)), ("m", (2, 3, 3, 3)), ("e", (2, 3, 2, 4))]:
            table = made_table([A, B, ("ab", (5,), places)], NO_MARKS, ())
            for text, count in zip(["ab", "aba", "bab", "baba"], counts):
                self.assert_writing(table, text, count)

    def test_the_fewest_is_not_the_longest_form_first(self):
        table = made_table([A, B, ("aab", (5, 5), "wbme"), ("abb", (6,), "wbme"), ("ba", (7,), "wbme")], NO_MARKS, ())
        self.assert_writing(table, "aabb", 2)
        self.assert_writing(table, "aaba", 3)

    def test_words_all_great(self):
        table = made_table([A, B, ("ab", (5,), "wbme")], ((32, 32), (6, 6), (), ()), ())
        for text, count in [("A", 3), ("AB", 3), ("AA", 4), ("ABBA", 5), ("AAAAA", 7), ("Ab", 3), ("aB", 4),
                            ("aAA", 7), ("AAa", 7), ("AB AB", 7)]:
            self.assert_writing(table, text, count)

    def test_a_word_behind_a_figure(self):
        table = made_table([A, B, ("ab", (5,), "w"), ("ba", (6,), "b")], ((32,), (6,), (60,), (48, 49)), (26, 1))
        for text, count in [("0ab", 5), ("0ba", 6), ("0baa", 6), ("0AB", 6), ("0BAA", 7), ("0a1", 7), ("00", 3),
                            ("ab0", 3), ("ab0ab", 6)]:
            self.assert_writing(table, text, count)

    def test_the_fewest_of_all_writings(self):
        for table in TABLES + some_tables(25) + some_tables(25, top=2, seed=9):
            edges = edges_again(table)
            for text in short_texts(table, 12, 5):
                rows = rows_from(edges, text, "out")
                self.assertIn(self.assert_writing(table, text), rows)
                self.assertEqual(len(written(table, text)[0]), min(len(row) for row in rows))

    def test_each_text_has_a_writing(self):
        for table in [ONE, GREAT, FULL]:
            for length in range(4):
                for signs in itertools.product(signs_of(table), repeat=length):
                    self.assertTrue(is_written(table, "".join(signs), written(table, "".join(signs))[0]))

    def test_texts_of_200_signs(self):
        table = made_table([A, B, ("ab", (5,), "wbme"), ("ba", (5, 6), "wbme")], ((32,), (32, 32), (60,), (48,)), (1,))
        self.assert_writing(table, "ab" * 100, 100)
        self.assert_writing(table, "ba" * 100, 101)
        self.assert_writing(table, " " * 200, 200)
        self.assert_writing(table, "0" * 200, 201)
        self.assert_writing(table, "0a" * 100, 400)
        self.assert_writing(table, "AB" * 100, 102)
        self.assert_writing(table, "aB" * 100, 300)
        self.assert_writing(table, "Ab 0 " * 40, 240)

    def test_long_texts_of_many_forms(self):
        forms = [("a" * k, (1,) * cells, "wbme") for k in range(1, 7) for cells in range(1, 5)]
        table = made_table(forms, ((1,), (1,), (1,), (1,)), (1,) * 10)
        for text in ["a" * 200, "A" * 200, "aA1 A" * 40, "A0" * 100]:
            self.assert_writing(table, text)
        self.assert_writing(table, "a" * 200, 34)
        self.assert_writing(table, "A" * 200, 35)

    def test_longest_writings(self):
        table = made_table([("a", (1, 2, 3, 4), "wbme")], ((5, 6), (), (7, 8), (9, 10)), (11,))
        self.assert_writing(table, "A" * 200, 1200)
        self.assert_writing(table, "0A" * 100, 1100)

    def test_what_is_told_is_the_askers_own(self):
        told = written(FULL, "Ab 10a")
        before = (told[0], list(told[1]))
        told[1].clear()
        other = written(FULL, "Ab 10a")
        self.assertEqual(other, before)
        written(PLAIN, "ab")
        self.assertEqual(other, before)

    def test_arguments_bear_their_names(self):
        self.assertEqual(written(table=ONE, text="a"), ((1,), [("out", "a", (1,), "done")]))


class PricesTest(unittest.TestCase):
    def test_the_text_of_none(self):
        for table in TABLES:
            self.assertEqual(prices(table, ""), [[0, None, 0, 0, None, None]])

    def test_a_letter(self):
        end = [0, None, 0, 0, None, None]
        self.assertEqual(prices(ONE, "a"), [[1, 1, None, None, None, None], end])
        self.assertEqual(prices(ONE, "aa"), [[2, 2, None, None, None, None], [1, 1, None, None, None, None], end])
        self.assertEqual(prices(ONE, " "), [[1, None, 1, 1, None, None], end])

    def test_all_states(self):
        table = made_table([A, B, ("ab", (5,), "we")], ((32,), (32, 6), (60,), (48, 1)), (26, 1))
        end = [0, None, 0, 0, None, None]
        self.assertEqual(prices(table, "AB"), [[3, 4, None, 5, 3, 1], [2, 2, None, 4, 2, 1], end])
        self.assertEqual(prices(table, "0"), [[2, None, 2, 1, None, None], end])
        self.assertEqual(prices(table, "0b"), [[5, None, 5, 4, None, None], [1, 1, None, 3, 1, None], end])

    def test_all_writings_from_each_place_and_state(self):
        for table in TABLES + some_tables(20) + some_tables(20, top=2, seed=10):
            edges = edges_again(table)
            for text in short_texts(table, 8, 4):
                told = prices(table, text)
                self.assertEqual(len(told), len(text) + 1)
                for place, here in enumerate(told):
                    for state, price in zip(STATES, here, strict=True):
                        rows = rows_from(edges, text[place:], state)
                        self.assertEqual(price, min((len(row) for row in rows), default=None), (table, text, place))

    def test_of_200_signs(self):
        told = prices(ONE, "a" * 200)
        self.assertEqual([here[0] for here in told], list(range(200, -1, -1)))
        self.assertEqual([here[1] for here in told], list(range(200, 0, -1)) + [None])

    def test_kinds(self):
        told = prices(FULL, "Ab 10a")
        self.assertIs(type(told), list)
        self.assertEqual({type(here) for here in told}, {list})
        self.assertEqual({type(price) for here in told for price in here}, {int, type(None)})
        self.assertEqual({len(here) for here in told}, {6})

    def test_what_is_told_is_the_askers_own(self):
        told = prices(FULL, "aa")
        before = [list(here) for here in told]
        for here in told:
            here[0] = 99
            here[5] = 99
        self.assertEqual(prices(FULL, "aa"), before)
        other = prices(FULL, "aa")
        prices(PLAIN, "ab")
        self.assertEqual(other, before)
        self.assertEqual(len({id(here) for here in other}), 3)

    def test_arguments_bear_their_names(self):
        self.assertEqual(prices(table=ONE, text="a")[0][0], 1)


class NoSignTest(unittest.TestCase):
    def assert_no_sign(self, place, table, text):
        for asked in (prices, written):
            with self.assertRaises(DotError, msg=text) as taken:
                asked(table, text)
            self.assertIs(type(taken.exception), NoSign)
            self.assertEqual(vars(taken.exception), {"place": place}, text)

    def test_a_strange_sign(self):
        for table in TABLES:
            for sign in STRANGE:
                self.assert_no_sign(0, table, sign)
                self.assert_no_sign(1, table, "a" + sign)
                self.assert_no_sign(2, table, "a " + sign + "a")

    def test_signs_that_other_tables_have(self):
        self.assert_no_sign(1, ONE, "aA")
        self.assert_no_sign(0, ONE, "b")
        self.assert_no_sign(2, ONE, "aa0")
        self.assert_no_sign(3, FIGURES, "0102")
        self.assert_no_sign(1, FIGURES, "0A")
        self.assert_no_sign(2, GREAT, "AB0")
        self.assert_no_sign(2, ALL_GREAT, "ABC")

    def test_the_first_one(self):
        self.assert_no_sign(2, ONE, "a b!c")
        self.assert_no_sign(0, ONE, "~" * 200)
        self.assert_no_sign(199, ONE, "a" * 199 + "\n")
        self.assert_no_sign(100, FULL, "aB 10" * 20 + "ccc")


class IsWrittenTest(unittest.TestCase):
    def assert_rows(self, table, text, good, bad):
        for row in good:
            self.assertIs(is_written(table, text, row), True, (text, row))
        for row in bad:
            self.assertIs(is_written(table, text, row), False, (text, row))

    def test_the_text_of_none(self):
        for table in TABLES:
            self.assert_rows(table, "", [()], [(0,), (1,), (60,), (1, 1), (0,) * 1300])

    def test_ordinary(self):
        self.assert_rows(ONE, "a", [(1,)], [(), (0,), (2,), (1, 1), (1, 0), (0, 1), (63,)])
        self.assert_rows(ONE, "a a", [(1, 0, 1)], [(1, 1), (1, 0), (1, 0, 1, 0), (1, 1, 0), (0, 1, 1)])
        self.assert_rows(PLAIN, "ab", [(5,), (1, 3)], [(3, 1), (1,), (1, 5), (5, 5), (2,)])
        self.assert_rows(PLAIN, "bab", [(3, 5), (3, 1, 3), (3, 7, 3)], [(3,), (3, 7), (5, 3), (7, 3)])

    def test_not_the_fewest(self):
        table = made_table([A, B, ("ab", (5,), "wbme"), ("a", (7, 7, 7), "w")], ((32,), (6,), (), ()), ())
        self.assert_rows(table, "a", [(1,), (7, 7, 7)], [(7,), (7, 7), (1, 7, 7, 7)])
        self.assert_rows(table, "ABAB",
                         [(6, 5, 5), (6, 1, 3, 5), (6, 1, 3, 1, 3), (32, 1, 32, 3, 32, 1, 32, 3)],
                         [(6, 5), (32, 5, 5), (6, 1, 3, 32, 5), (6, 5, 32, 1, 32, 3), (5, 5)])

    def test_a_row_that_ends_where_none_may(self):
        self.assert_rows(FIGURES, "0", [(60, 26)], [(60, 26, 48, 60), (60,), (26,), (60, 26, 48)])
        self.assert_rows(PLAIN, "ba", [(3, 1)], [(3, 7)])

    def test_the_edge_without_a_text(self):
        self.assert_rows(FIGURES, "0a", [(60, 26, 48, 60, 1)], [(60, 26, 1), (60, 26, 48, 60), (48, 60, 1)])
        self.assert_rows(FIGURES, "01", [(60, 26, 1)], [(60, 26, 60, 1), (60, 26, 48, 60, 60, 1)])

    def test_a_text_that_is_none_of_the_tables(self):
        for table in TABLES:
            for sign in STRANGE:
                self.assert_rows(table, sign, [], [(), (0,), (1,)])
                self.assert_rows(table, "a" + sign, [], [(1,), (1, 0), (1, 1)])
        self.assert_rows(ONE, "A", [], [(1,), (32, 1)])
        self.assert_rows(GREAT, "0", [], [(26,), (60, 26)])

    def test_all_short_rows(self):
        for table in [PLAIN, ALIKE, FIGURES]:
            edges = edges_again(table)
            cells = sorted({cell for edge in edges for cell in edge[2]})
            for text in short_texts(table, 6, 3):
                rows = rows_from(edges, text, "out")
                for length in range(5):
                    for row in itertools.product(cells, repeat=length):
                        self.assertIs(is_written(table, text, row), row in rows, (text, row))

    def test_all_writings_of_short_texts(self):
        for table in TABLES + some_tables(25) + some_tables(25, top=2, seed=11):
            edges = edges_again(table)
            for text in short_texts(table, 6, 4):
                rows = rows_from(edges, text, "out")
                self.assertNotEqual(rows, set())
                near = {row[:k] + row[k + 1:] for row in rows for k in range(len(row))} | {row + (0,) for row in rows}
                self.assert_rows(table, text, rows, near - rows)

    def test_long_rows(self):
        table = made_table([("a", (1,), "wbme"), ("a", (1, 1), "wbme"), ("a", (1,) * 4, "wbme")], NO_MARKS, ())
        self.assert_rows(table, "a" * 200, [(1,) * 200, (1,) * 201, (1,) * 799 + (1,)],
                         [(1,) * 199, (1,) * 801, (1,) * 1300, (1,) * 400 + (0,)])
        longest = made_table([("a", (1, 2, 3, 4), "wbme")], ((5, 6), (), (), ()), ())
        row = (5, 6, 1, 2, 3, 4) * 200
        self.assert_rows(longest, "A" * 200, [row], [row[:-1], row[1:], row + (5,), row[:600] + row[606:]])

    def test_kinds_and_names(self):
        self.assertIs(is_written(table=ONE, text="a", row=(1,)), True)
        self.assertIs(is_written(table=ONE, text="a", row=()), False)


if __name__ == "__main__":
    unittest.main()
