"""Points 5 and 6: cells and their dots, cells and rows as texts."""

import itertools
import unittest

from dots.cells import cell_of, dots_of, is_raised, read_cell, read_row, shown_cell, shown_row

ALL_CELLS = range(64)


class DotsTest(unittest.TestCase):
    def test_each_dot_by_itself(self):
        for dot, cell in [(1, 1), (2, 2), (3, 4), (4, 8), (5, 16), (6, 32)]:
            self.assertEqual(dots_of(cell), [dot])
            self.assertEqual(cell_of([dot]), cell)

    def test_some_cells(self):
        self.assertEqual(dots_of(0), [])
        self.assertEqual(dots_of(11), [1, 2, 4])
        self.assertEqual(dots_of(50), [2, 5, 6])
        self.assertEqual(dots_of(63), [1, 2, 3, 4, 5, 6])
        self.assertEqual(cell_of([]), 0)
        self.assertEqual(cell_of([1, 2, 3, 4, 5, 6]), 63)

    def test_all_cells_and_back(self):
        for cell in ALL_CELLS:
            dots = dots_of(cell)
            self.assertEqual(sum(2 ** (dot - 1) for dot in dots), cell)
            self.assertEqual(dots, sorted(set(dots)))
            self.assertEqual(cell_of(dots), cell)

    def test_dots_in_any_order(self):
        for dots in itertools.permutations([1, 3, 4, 6]):
            self.assertEqual(cell_of(list(dots)), 45)

    def test_dots_some_twice(self):
        self.assertEqual(cell_of([2, 2]), 2)
        self.assertEqual(cell_of([6, 1, 6, 6, 1]), 33)
        self.assertEqual(cell_of([3, 5, 1] * 1000), 21)

    def test_dots_told_are_the_askers_own(self):
        told = dots_of(11)
        told.append(6)
        told[0] = 5
        self.assertEqual(dots_of(11), [1, 2, 4])
        self.assertIsNot(dots_of(11), dots_of(11))

    def test_dots_handed_in_stay(self):
        dots = [6, 1, 6]
        self.assertEqual(cell_of(dots), 33)
        self.assertEqual(dots, [6, 1, 6])

    def test_kinds(self):
        for cell in ALL_CELLS:
            dots = dots_of(cell)
            self.assertIs(type(dots), list)
            self.assertTrue(all(type(dot) is int for dot in dots))
            self.assertIs(type(cell_of(dots)), int)

    def test_arguments_bear_their_names(self):
        self.assertEqual(dots_of(cell=3), [1, 2])
        self.assertEqual(cell_of(dots=[2, 1]), 3)


class RaisedTest(unittest.TestCase):
    def test_from_1_to_63(self):
        self.assertEqual([cell for cell in range(-2, 70) if is_raised(cell)], list(range(1, 64)))

    def test_truths_are_no_cells(self):
        self.assertIs(is_raised(True), False)
        self.assertIs(is_raised(False), False)


class ShownTest(unittest.TestCase):
    def test_cells(self):
        for cell, text in [(0, "0"), (1, "1"), (32, "6"), (11, "124"), (50, "256"), (63, "123456")]:
            self.assertEqual(shown_cell(cell), text)

    def test_rows(self):
        self.assertEqual(shown_row(()), "")
        self.assertEqual(shown_row((0,)), "0")
        self.assertEqual(shown_row((0, 0)), "0 0")
        self.assertEqual(shown_row((11, 0, 63, 32)), "124 0 123456 6")

    def test_kinds(self):
        for told in [shown_cell(0), shown_cell(63), shown_row(()), shown_row((1, 2))]:
            self.assertIs(type(told), str)

    def test_arguments_bear_their_names(self):
        self.assertEqual(shown_cell(cell=3), "12")
        self.assertEqual(shown_row(row=(3, 0)), "12 0")


class ReadTest(unittest.TestCase):
    def test_all_cells_again(self):
        for cell in ALL_CELLS:
            self.assertEqual(read_cell(shown_cell(cell)), cell)
            self.assertIs(type(read_cell(shown_cell(cell))), int)

    def test_short_texts_are_cells_where_they_are_written_so(self):
        cells = {shown_cell(cell): cell for cell in ALL_CELLS}
        for length in range(4):
            for signs in itertools.product("01234567 \n", repeat=length):
                text = "".join(signs)
                self.assertEqual(read_cell(text), cells.get(text), repr(text))

    def test_texts_that_write_no_cell(self):
        for text in ["", " ", "00", "01", "10", "21", "11", "1224", "7", "8", "9", "17", "1234567",
                     "123465", "1 2", " 1", "1 ", "1\n", "\n1", "+1", "-1", "a", "1a", "~", "1.",
                     "1_2", "0" * 200, "123456" * 33]:
            self.assertIsNone(read_cell(text), repr(text))

    def test_rows_again(self):
        rows = [(), (0,), (0, 0), (63,), (11, 0, 63, 32), tuple(ALL_CELLS), (63,) * 1300]
        for row in rows:
            told = read_row(shown_row(row))
            self.assertEqual(told, row)
            self.assertIs(type(told), tuple)
            self.assertTrue(all(type(cell) is int for cell in told))

    def test_the_text_of_none_writes_the_row_of_none(self):
        self.assertEqual(read_row(""), ())
        self.assertIsNone(read_cell(""))

    def test_texts_that_write_no_row(self):
        for text in [" ", "  ", "1 ", " 1", "1  2", "1\n2", "1 2\n", "\n", "1 00", "1 21", "7 1",
                     "1 7 1", "1,2", "1 a", "0 0 ", "x" * 8000, " " * 8000]:
            self.assertIsNone(read_row(text), repr(text))

    def test_arguments_bear_their_names(self):
        self.assertEqual(read_cell(text="12"), 3)
        self.assertEqual(read_row(text="12 0"), (3, 0))


if __name__ == "__main__":
    unittest.main()
