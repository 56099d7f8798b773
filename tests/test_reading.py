"""Point 16: rows read as texts, and where a row that is no writing goes wrong."""

import itertools
import random
import unittest

from dots.errors import DotError, NoReading
from dots.reading import read
from dots.tables import made_table
from dots.writing import is_written, written
from samples import (
    A, ALIKE, ALL_GREAT, B, FIGURES, FULL, GREAT, NO_MARKS, ONE, PLAIN, TABLES, beginnings, edges_again, rows_from,
    some_tables, texts_of_rows,
)

CLEAR = made_table([A, B, ("ab", (5, 6, 7), "wb")], ((32,), (32, 32), (60,), (48, 49)), (26, 27))


class ReadTest(unittest.TestCase):
    def test_the_row_of_no_cells(self):
        for table in TABLES:
            told = read(table, ())
            self.assertEqual(told, "")
            self.assertIs(type(told), str)

    def test_rows_of_one_text(self):
        for row, text in [((1,), "a"), ((1, 3), "ab"), ((0,), " "), ((0, 0, 1, 0), "  a "), ((5, 6, 7), "ab"),
                          ((5, 6, 7, 1), "aba"), ((32, 1), "A"), ((32, 5, 6, 7), "Ab"), ((32, 32, 5, 6, 7), "AB"),
                          ((32, 32, 1, 3), "AB"), ((1, 32, 3), "aB"), ((60, 26), "0"), ((60, 26, 27), "01"),
                          ((60, 26, 48, 49, 1), "0a"), ((60, 26, 48, 49, 32, 5, 6, 7), "0Ab"),
                          ((1, 60, 26, 0, 3), "a0 b"), ((1, 60, 26, 48, 49, 32, 32, 1, 3), "a0AB")]:
            self.assertEqual(read(CLEAR, row), text)

    def test_rows_that_are_no_fewest_writing(self):
        table = made_table([A, B, ("ab", (5,), "wbme"), ("a", (9, 9), "w")], NO_MARKS, ())
        self.assertEqual(len(written(table, "abab")[0]), 2)
        self.assertEqual(read(table, (1, 3, 1, 3)), "abab")
        self.assertEqual(read(table, (5, 1, 3)), "abab")
        self.assertEqual(read(table, (9, 9)), "a")

    def test_a_walk_that_goes_on_and_one_that_ends(self):
        table = made_table([A, B, ("aa", (1, 1), "b"), ("bb", (1, 1, 3), "e")], NO_MARKS, ())
        for row in [(1,), (1, 1), (1, 1, 1), (1, 1, 1, 3), (1, 1, 1, 1, 3), (1, 1, 3)]:
            self.assertTrue(is_written(table, read(table, row), row), row)

    def test_short_rows_of_many_tables(self):
        for table in TABLES + some_tables(20, top=2) + some_tables(20, top=3, seed=12):
            for row, texts in texts_of_rows(table, 4).items():
                told = read(table, row)
                self.assertIn(told, texts)
                self.assertIs(type(told), str)

    def test_all_writings_of_short_texts(self):
        chance = random.Random(5)
        for table, signs in [(PLAIN, "ab "), (GREAT, "abAB "), (ALL_GREAT, "aABB "), (FIGURES, "ab01 "),
                             (FULL, "abAB012 "), (ALIKE, "abAB01 ")]:
            edges = edges_again(table)
            for k in range(12):
                text = "".join(chance.choices(signs, k=chance.randint(0, 5)))
                for row in rows_from(edges, text, "out"):
                    self.assertIn(row, rows_from(edges, read(table, row), "out"))

    def test_long_rows(self):
        self.assertEqual(read(CLEAR, (1,) * 1300), "a" * 1300)
        self.assertEqual(read(CLEAR, (0,) * 1300), " " * 1300)
        self.assertEqual(read(CLEAR, (60, 26, 48, 49, 1) * 260), "0a" * 260)
        self.assertEqual(read(CLEAR, (5, 6, 7, 0) * 325), "ab " * 325)
        forms = [("a" * k, (1,) * cells, "wbme") for k in range(1, 7) for cells in range(1, 5)]
        table = made_table(forms, ((1,), (1,), (1,), (1,)), (1,) * 10)
        for row in [(1,) * 1300, (1, 1, 1, 1, 0) * 260]:
            text = read(table, row)
            self.assertIs(is_written(table, text, row), True)
            self.assertLessEqual(len(written(table, text)[0]), 1300)

    def test_nothing_hangs_on_what_was_asked_before(self):
        self.assertEqual(read(CLEAR, (1, 3)), "ab")
        self.assertRaises(NoReading, read, CLEAR, (1, 3, 63))
        self.assertEqual(read(ONE, (1, 1)), "aa")
        self.assertEqual(read(CLEAR, (1, 3)), "ab")

    def test_arguments_bear_their_names(self):
        self.assertEqual(read(table=ONE, row=(1, 0)), "a ")


class NoReadingTest(unittest.TestCase):
    def assert_no_reading(self, place, table, row):
        with self.assertRaises(DotError, msg=row) as taken:
            read(table, row)
        self.assertIs(type(taken.exception), NoReading)
        self.assertEqual(vars(taken.exception), {"place": place}, (table, row))
        self.assertIs(type(taken.exception.place), int)

    def test_no_edge_goes_on(self):
        for place, row in [(0, (63,)), (0, (6, 1)), (0, (48, 49, 1)), (1, (1, 63)), (1, (0, 63, 1)),
                           (2, (1, 3, 26)), (2, (60, 26, 1)), (3, (60, 26, 0, 26)), (1, (1, 5, 6, 7)),
                           (2, (60, 26, 60, 26)), (4, (60, 26, 48, 49, 0)), (4, (60, 26, 48, 49, 60)),
                           (3, (5, 6, 7, 63, 1))]:
            self.assert_no_reading(place, CLEAR, row)

    def test_amid_an_edge(self):
        for place, row in [(1, (5, 1)), (2, (5, 6, 1)), (2, (5, 6, 5, 6, 7)), (1, (60, 60)), (1, (60, 0)),
                           (3, (60, 26, 48, 1)), (1, (32, 0)), (2, (32, 32, 32)), (4, (1, 0, 5, 6, 0)),
                           (3, (32, 5, 6, 0))]:
            self.assert_no_reading(place, CLEAR, row)

    def test_a_row_that_could_go_on(self):
        for row in [(5,), (5, 6), (60,), (60, 26, 48), (60, 26, 48, 49), (32,), (32, 32), (32, 32, 1),
                    (1, 0, 5), (1, 60), (32, 5, 6)]:
            self.assert_no_reading(len(row), CLEAR, row)

    def test_within_a_word(self):
        table = made_table([A, B, ("ab", (5,), "b"), ("ba", (6,), "m")], NO_MARKS, ())
        self.assert_no_reading(1, table, (5,))
        self.assert_no_reading(2, table, (5, 6))
        self.assert_no_reading(2, table, (1, 6))
        self.assert_no_reading(1, table, (5, 0))
        self.assert_no_reading(2, table, (5, 6, 5))
        self.assert_no_reading(0, table, (6,))

    def test_the_walk_that_goes_furthest_counts(self):
        table = made_table([A, B, ("aa", (1, 3, 3, 9), "w"), ("bb", (3, 3), "e")], NO_MARKS, ())
        self.assert_no_reading(3, table, (1, 3, 0, 9))
        self.assert_no_reading(3, table, (1, 3, 3, 10))
        self.assert_no_reading(4, table, (1, 3, 3, 9, 9))

    def test_all_short_rows(self):
        for table in [ONE, PLAIN, FIGURES, ALIKE] + some_tables(12, top=2, seed=13):
            cells = sorted({cell for edge in edges_again(table) for cell in edge[2]}) + [63]
            most = 4 if len(cells) > 5 else 5
            good = texts_of_rows(table, most)
            starts = beginnings(table, most)
            for length in range(most + 1):
                for row in itertools.product(cells, repeat=length):
                    if row in good:
                        self.assertIn(read(table, row), good[row])
                    else:
                        self.assert_no_reading(max(n for n in range(length + 1) if row[:n] in starts), table, row)

    def test_long_rows(self):
        self.assert_no_reading(1299, CLEAR, (1,) * 1299 + (26,))
        self.assert_no_reading(1300, CLEAR, (1,) * 1299 + (60,))
        self.assert_no_reading(0, CLEAR, (63,) + (1,) * 1299)
        self.assert_no_reading(650, CLEAR, (1, 0) * 325 + (49,) * 650)
        self.assert_no_reading(0, CLEAR, (63,) * 1300)


if __name__ == "__main__":
    unittest.main()
