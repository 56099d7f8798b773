"""Point 10: the lines of a table, and the table read of lines."""

import unittest

from dots.errors import DotError, NoForm, NoLetter, NoMark, NoTable, Twice
from dots.tables import made_table
from dots.tabletexts import read_table, shown_table
from samples import A, ALIKE, B, FULL, NO_MARKS, PLAIN, TABLES, some_tables

TEN = (26, 1, 3, 9, 25, 17, 11, 27, 19, 10)
FORM_A = "form a wbme 1"
FORM_B = "form b wbme 12"
ALL_LINES = [FORM_A, FORM_B, "form ab we 13 2 4 56", "great 6", "all 6 6", "number 3456", "letter 56",
             "figures 245 1 12"]


class ShownTest(unittest.TestCase):
    def test_forms_alone(self):
        self.assertEqual(shown_table(made_table([A], NO_MARKS, ())), ["form a wbme 1"])
        self.assertEqual(shown_table(PLAIN), [
            "form a wbme 1", "form b wbme 12", "form ab we 13", "form ba bm 12 123", "form abb m 2"])

    def test_forms_stay_in_their_order(self):
        table = made_table([B, ("ab", (63, 1, 2, 32), "e"), A], NO_MARKS, ())
        self.assertEqual(shown_table(table), ["form b wbme 12", "form ab e 123456 1 2 6", "form a wbme 1"])

    def test_each_mark(self):
        self.assertEqual(shown_table(made_table([A], [[32], [], [], []], [])), [FORM_A, "great 6"])
        self.assertEqual(shown_table(made_table([A], [[32, 1], [32, 63], [], []], [])),
                         [FORM_A, "great 6 1", "all 6 123456"])
        self.assertEqual(shown_table(made_table([A], [[], [], [60], [48, 2]], [26, 1])),
                         [FORM_A, "number 3456", "letter 56 2", "figures 245 1"])
        self.assertEqual(shown_table(made_table([A], [[5], [], [60], [48]], [26])),
                         [FORM_A, "great 13", "number 3456", "letter 56", "figures 245"])

    def test_all_of_them(self):
        table = made_table([A, B], [[32], [32, 32], [60], [48]], TEN)
        self.assertEqual(shown_table(table), [
            FORM_A, FORM_B, "great 6", "all 6 6", "number 3456", "letter 56",
            "figures 245 1 12 14 145 15 124 1245 125 24"])

    def test_kinds(self):
        told = shown_table(FULL)
        self.assertIs(type(told), list)
        self.assertEqual({type(line) for line in told}, {str})

    def test_what_is_told_is_the_askers_own(self):
        told = shown_table(FULL)
        before = list(told)
        told.clear()
        self.assertEqual(shown_table(FULL), before)

    def test_arguments_bear_their_names(self):
        self.assertEqual(shown_table(table=made_table([A], NO_MARKS, ())), [FORM_A])
        self.assertEqual(read_table(lines=[FORM_A]), ((A,), NO_MARKS, ()))


class ReadTest(unittest.TestCase):
    def test_of_lines(self):
        self.assertEqual(read_table([FORM_A]), ((A,), NO_MARKS, ()))
        self.assertEqual(read_table([FORM_B, FORM_A, "great 6"]), ((B, A), ((32,), (), (), ()), ()))
        self.assertEqual(read_table([FORM_A, "number 3456", "letter 56 1", "figures 1"]),
                         ((A,), ((), (), (60,), (48, 1)), (1,)))
        self.assertEqual(read_table(ALL_LINES), (
            (A, B, ("ab", (5, 2, 8, 48), "we")), ((32,), (32, 32), (60,), (48,)), (26, 1, 3)))

    def test_the_lines_of_a_table_again(self):
        most = made_table(
            [("abcdefghijklmnopqrstuvwx"[k], (k + 1, 63), "wbme") for k in range(24)],
            [[1, 63], [63, 1], [1, 2], [2, 1]], TEN)
        for table in TABLES + [most] + some_tables(60):
            told = read_table(shown_table(table))
            self.assertEqual(told, table)
            self.assertEqual(repr(told), repr(table))

    def test_other_lists_of_right_lines_are_read_as_they_stand(self):
        lines = ["form a w 2", FORM_A, "form aa bm 1", "great 1 1", "number 1 2", "letter 2", "figures 1 1"]
        self.assertEqual(shown_table(read_table(lines)), lines)

    def test_kinds(self):
        table = read_table(ALL_LINES)
        for part in (table,) + table + table[1] + table[0] + (table[0][2][1],):
            self.assertIs(type(part), tuple)
        self.assertEqual({type(cell) for cell in table[0][2][1] + table[1][1] + table[2]}, {int})
        self.assertEqual([type(part) for part in table[0][2]], [str, tuple, str])

    def test_the_lines_handed_in_stay(self):
        for lines in [list(ALL_LINES), [FORM_A, "great 6", FORM_B], [FORM_A, "all 6"], [], [FORM_A, ""]]:
            before = list(lines)
            try:
                read_table(lines)
            except DotError:
                pass
            self.assertEqual(lines, before)

    def test_what_is_done_to_the_lines_changes_no_table(self):
        lines = list(ALL_LINES)
        table = read_table(lines)
        before = repr(table)
        lines.clear()
        read_table([FORM_B])
        self.assertEqual(repr(table), before)


class RefusedTest(unittest.TestCase):
    def assert_refused(self, kind, field, lines):
        with self.assertRaises(DotError, msg=lines) as taken:
            read_table(list(lines))
        self.assertIs(type(taken.exception), kind, lines)
        told = list(vars(taken.exception).values())
        self.assertEqual(told, [field], lines)
        self.assertIs(type(told[0]), type(field))

    def assert_no_line(self, line):
        """That the line is none by itself, wherever it stands."""
        for place in range(len(ALL_LINES) + 1):
            self.assert_refused(NoTable, place, ALL_LINES[:place] + [line] + ALL_LINES[place:])
        self.assert_refused(NoTable, 0, [line])
        self.assert_refused(NoTable, 1, [FORM_A, line, line])

    def test_strange_words(self):
        for line in ["", " ", "\n", "a", "form", "forms a wbme 1", "Form a wbme 1", "FORM a wbme 1", "mark 6",
                     "greats 6", "Great 6", "figure 1", "numbers 1", "letters 1", "1", "6 6", "a wbme 1",
                     "formawbme1", "great6", "table", "put a wbme 1", "0", "~" * 200]:
            self.assert_no_line(line)

    def test_forms_that_are_none(self):
        for line in ["form a", "form a wbme", "form a 1", "form a wbme 0", "form a wbme 1 0", "form a wbme 7",
                     "form a wbme 21", "form a wbme 11", "form a wbme 1 2 3 4 5", "form A wbme 1", "form a1 wbme 1",
                     "form abcdefg wbme 1", "form a bw 1", "form a ww 1", "form a wbmex 1", "form a W 1",
                     "form wbme a 1", "form a 1 wbme", "form a wbme x", "form a wbme 1 x", "form wbme 1",
                     "form a wbme 00", "form a wbme 01", "form a wbme -1", "form a wbme 1,2"]:
            self.assert_no_line(line)

    def test_marks_and_figures_that_are_none(self):
        for word in ["great", "all", "number", "letter", "figures"]:
            for cells in ["0", "1 0", "0 1", "7", "21", "1 x", "x", "00", "-1", "a wbme 1"]:
                self.assert_no_line(word + " " + cells)
            self.assert_no_line(word)
        for word in ["great", "all", "number", "letter"]:
            self.assert_no_line(word + " 1 2 3")
        self.assert_no_line("figures" + " 1" * 11)

    def test_as_many_cells_as_may_be(self):
        lines = ["form a wbme 1 2 3 4", "great 1 2", "all 1 2", "number 1 2", "letter 1 2", "figures" + " 1" * 10]
        self.assertEqual(shown_table(read_table(lines)), lines)

    def test_a_blank_too_many(self):
        for line in ALL_LINES:
            self.assert_no_line(" " + line)
            self.assert_no_line(line + " ")
            for place in [k for k, sign in enumerate(line) if sign == " "]:
                self.assert_no_line(line[:place] + " " + line[place:])
        for word in ["form ", "great ", "all ", "number ", "letter ", "figures ", "form a ", "form a wbme "]:
            self.assert_no_line(word)
            self.assert_no_line(word + " ")

    def test_a_line_feed(self):
        for line in ALL_LINES:
            self.assert_no_line(line + "\n")
            self.assert_no_line("\n" + line)
            self.assert_no_line(line.replace(" ", "\n"))
            self.assert_no_line(line.replace(" ", "\n", 1))
        self.assert_no_line("great 1\n2")
        self.assert_no_line("form a wbme 1\nform b wbme 2")

    def test_a_line_behind_one_that_should_come_later(self):
        for first in range(3, 8):
            for later in range(first + 1, 8):
                self.assert_refused(NoTable, 2, [FORM_A, ALL_LINES[later], ALL_LINES[first]])
            self.assert_refused(NoTable, 2, [FORM_A, ALL_LINES[first], FORM_B])
            self.assert_refused(NoTable, 1, [ALL_LINES[first], FORM_A])
        self.assert_refused(NoTable, 8, ALL_LINES + [FORM_A])
        self.assert_refused(NoTable, 3, [FORM_A, "great 6", "letter 6", "all 6", "number 6", "figures 1"])
        self.assert_refused(NoTable, 4, [FORM_A, "great 6", "all 6", "number 6", "great 6"])

    def test_a_line_that_comes_again(self):
        for place in range(3, 8):
            self.assert_refused(NoTable, place + 1, ALL_LINES[:place + 1] + ALL_LINES[place:])
            self.assert_refused(NoTable, 8, ALL_LINES + [ALL_LINES[place]])
        self.assert_refused(NoTable, 2, [FORM_A, "great 6", "great 1 1"])

    def test_the_first_place_is_told(self):
        self.assert_refused(NoTable, 1, [FORM_A, "x", "great 6", FORM_B])
        self.assert_refused(NoTable, 2, [FORM_A, "great 6", FORM_B, "x"])
        self.assert_refused(NoTable, 2, [FORM_A, "great 6", "great 6", "great 6"])
        self.assert_refused(NoTable, 3999, [FORM_A] * 3999 + ["great 0"])

    def test_a_line_that_is_none_goes_ahead_of_what_8_refuses(self):
        self.assert_refused(NoTable, 2, [FORM_A, FORM_A, "x"])
        self.assert_refused(NoTable, 30, [FORM_A] * 30 + ["all"])
        self.assert_refused(NoTable, 1, ["all 6", FORM_A])
        self.assert_refused(NoTable, 2, ["form ab w 1", "number 1", "great 1"])

    def test_right_lines_that_8_refuses(self):
        self.assert_refused(NoForm, 0, [])
        self.assert_refused(NoForm, 0, ["great 6"])
        self.assert_refused(NoForm, 24, [f"form {sign} wbme 1" for sign in "abcdefghijklmnopqrstuvwxy"])
        self.assert_refused(NoForm, 24, [FORM_A] * 4000)
        self.assert_refused(Twice, 1, [FORM_A, "form a e 1"])
        self.assert_refused(Twice, 2, [FORM_A, FORM_B, FORM_A, "all 6"])
        self.assert_refused(NoMark, 1, [FORM_A, "all 6"])
        self.assert_refused(NoMark, 2, [FORM_A, "number 6"])
        self.assert_refused(NoMark, 2, [FORM_A, "letter 1", "figures 1"])
        self.assert_refused(NoMark, 2, [FORM_A, "figures 1"])
        self.assert_refused(NoMark, 3, [FORM_A, "letter 6"])
        self.assert_refused(NoMark, 3, [FORM_A, "number 6", "figures 1"])
        self.assert_refused(NoLetter, "b", [FORM_A, "form ab w 1"])
        self.assert_refused(NoLetter, "a", ["form a wbm 1", "great 6"])

    def test_what_is_refused_changes_nothing(self):
        for lines in [["x"], [FORM_A, "all 6"], ["great 6", FORM_A]]:
            self.assertRaises(DotError, read_table, lines)
        self.assertEqual(read_table([FORM_A]), ((A,), NO_MARKS, ()))
        self.assertEqual(read_table(shown_table(ALIKE)), ALIKE)


if __name__ == "__main__":
    unittest.main()
