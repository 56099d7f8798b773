"""Points 7, 8 and 9: forms, tables and their refusals, the signs of a table."""

import copy
import itertools
import unittest

from dots.errors import DotError, NoForm, NoLetter, NoMark, Twice
from dots.tables import is_form, is_text, made_table, signs_of

A = ("a", (1,), "wbme")
B = ("b", (3,), "wbme")
C = ("c", (9,), "wbme")
NO_MARKS = ((), (), (), ())
ALL_MARKS = ((32,), (32, 32), (60,), (48,))
TEN = (26, 1, 3, 9, 25, 17, 11, 27, 19, 10)


def letters_forms(count):
    """That many forms, of one letter and one cell each."""
    return [("abcdefghijklmnopqrstuvwxyz"[k], (k + 1,), "wbme") for k in range(count)]


class FormTest(unittest.TestCase):
    def assert_form(self, letters, cells, places):
        self.assertIs(is_form((letters, cells, places)), True, (letters, cells, places))

    def assert_none(self, letters, cells, places):
        self.assertIs(is_form((letters, cells, places)), False, (letters, cells, places))

    def test_letters(self):
        for letters in ["a", "z", "az", "abcdef", "zzzzzz", "aa"]:
            self.assert_form(letters, (1,), "w")

    def test_no_letters(self):
        for letters in ["", "abcdefg", "A", "aB", "Z", "0", "a1", " ", "a b", "a ", " a", "a\n", "\n", "`", "{",
                        "-", "a" * 200]:
            self.assert_none(letters, (1,), "w")

    def test_cells(self):
        for cells in [(1,), (63,), (1, 63), (5, 5, 5), (1, 2, 3, 4), (63, 63, 63, 63)]:
            self.assert_form("a", cells, "w")

    def test_no_cells(self):
        for cells in [(), (0,), (64,), (-1,), (1, 0), (0, 1), (1, 2, 3, 64), (1, 2, 3, 4, 5), (10 ** 30,),
                      (-5, 5), (1,) * 4000]:
            self.assert_none("a", cells, "w")

    def test_truths_are_no_cells(self):
        self.assert_none("a", (True,), "w")

    def test_all_short_places(self):
        good = [""]
        for place in "wbme":
            good = good + [places + place for places in good]
        good = good[1:]
        self.assertEqual(len(good), 15)
        for length in range(6):
            for signs in itertools.product("wbme", repeat=length):
                places = "".join(signs)
                self.assertIs(is_form(("a", (1,), places)), places in good, places)

    def test_no_places(self):
        for places in ["", " ", "x", "wx", "W", "w ", " w", "w b", "wbmex", "wbme\n", "wb\nme", "a", "0",
                       "wbme" * 50]:
            self.assert_none("a", (1,), places)

    def test_arguments_bear_their_names(self):
        self.assertIs(is_form(form=A), True)


class MadeTest(unittest.TestCase):
    def test_of_lists(self):
        table = made_table([A, B], [[32], [32, 32], [60], [48]], [26, 1])
        self.assertEqual(table, ((A, B), ((32,), (32, 32), (60,), (48,)), (26, 1)))

    def test_of_tuples(self):
        self.assertEqual(made_table((A, B), ALL_MARKS, TEN), ((A, B), ALL_MARKS, TEN))

    def test_of_both(self):
        told = made_table((B, A), [(32,), [], (), []], ())
        self.assertEqual(told, ((B, A), ((32,), (), (), ()), ()))

    def test_the_order_of_forms_stays(self):
        forms = [C, ("abc", (7, 7), "e"), A, B]
        self.assertEqual(made_table(forms, NO_MARKS, [])[0], tuple(forms))

    def test_kinds(self):
        table = made_table([A, ("ab", (3, 1, 2), "wm"), B], [[32], [32, 32], [60], [48]], [26, 1])
        self.assertIs(type(table), tuple)
        self.assertEqual([type(part) for part in table], [tuple] * 3)
        for form in table[0]:
            self.assertIs(type(form), tuple)
            self.assertEqual([type(part) for part in form], [str, tuple, str])
            self.assertTrue(all(type(cell) is int for cell in form[1]))
        self.assertEqual([type(mark) for mark in table[1]], [tuple] * 4)
        cells = [cell for mark in table[1] for cell in mark] + list(table[2])
        self.assertTrue(all(type(cell) is int for cell in cells))

    def test_what_is_handed_in_stays(self):
        handed = ([A, B], [[32], [32, 32], [60], [48]], [26, 1])
        before = copy.deepcopy(handed)
        made_table(*handed)
        self.assertEqual(handed, before)

    def test_what_is_refused_stays(self):
        handed = ([A, B], [[32], [0], [60], [48]], [26, 1])
        before = copy.deepcopy(handed)
        self.assertRaises(NoMark, made_table, *handed)
        self.assertEqual(handed, before)

    def test_what_is_done_afterwards_changes_no_table(self):
        forms, marks, figures = [A, B], [[32], [32, 32], [60], [48]], [26, 1]
        table = made_table(forms, marks, figures)
        forms.clear()
        marks[0].append(99)
        marks.pop()
        figures[0] = 0
        self.assertEqual(table, ((A, B), ALL_MARKS, (26, 1)))

    def test_a_table_is_made_of_a_tables_parts(self):
        table = made_table([A, B], ALL_MARKS, TEN)
        self.assertEqual(made_table(*table), table)

    def test_arguments_bear_their_names(self):
        self.assertEqual(made_table(forms=[A], marks=NO_MARKS, figures=[]), ((A,), NO_MARKS, ()))


class RefusedTest(unittest.TestCase):
    def assert_refused(self, kind, field, forms, marks=NO_MARKS, figures=()):
        for like in (list, tuple):
            with self.assertRaises(DotError) as taken:
                made_table(like(forms), like([like(mark) for mark in marks]), like(figures))
            self.assertIs(type(taken.exception), kind)
            told = list(vars(taken.exception).values())
            self.assertEqual(told, [field])
            self.assertIs(type(told[0]), type(field))

    def test_no_form_at_all(self):
        self.assert_refused(NoForm, 0, [])

    def test_24_forms_are_taken(self):
        self.assertEqual(len(made_table(letters_forms(24), NO_MARKS, ())[0]), 24)

    def test_more_than_24_forms(self):
        self.assert_refused(NoForm, 24, letters_forms(25))
        self.assert_refused(NoForm, 24, letters_forms(26))
        self.assert_refused(NoForm, 24, [A] * 4000)

    def test_more_than_24_forms_goes_ahead_of_what_is_no_form(self):
        self.assert_refused(NoForm, 24, [("", (), "")] * 25)

    def test_the_first_that_is_no_form(self):
        bad = [("", (1,), "w"), ("A", (1,), "w"), ("abcdefg", (1,), "w"), ("a", (), "w"), ("a", (0,), "w"),
               ("a", (64,), "w"), ("a", (1, 2, 3, 4, 5), "w"), ("a", (1,), ""), ("a", (1,), "bw"),
               ("a", (1,), "ww"), ("a", (1,), "wbmex")]
        for form in bad:
            self.assert_refused(NoForm, 0, [form])
            self.assert_refused(NoForm, 0, [form, A])
            self.assert_refused(NoForm, 2, [A, B, form])
            self.assert_refused(NoForm, 1, [A, form, B, form])
        self.assert_refused(NoForm, 23, letters_forms(23) + [bad[0]])

    def test_twice(self):
        self.assert_refused(Twice, 1, [A, A])
        self.assert_refused(Twice, 2, [A, B, A, B])
        self.assert_refused(Twice, 3, [A, B, C, ("b", (3,), "e")])
        self.assert_refused(Twice, 2, [A, ("aa", (1, 2), "w"), ("aa", (1, 2), "e")])

    def test_not_twice(self):
        for other in [("a", (2,), "wbme"), ("a", (1, 1), "w"), ("aa", (1,), "wbme"), ("a", (2,), "e")]:
            self.assertEqual(made_table([A, other], NO_MARKS, ())[0], (A, other))
        pair = (("aa", (1, 2), "w"), ("aa", (2, 1), "w"))
        self.assertEqual(made_table((A,) + pair, NO_MARKS, ())[0], (A,) + pair)

    def test_marks_at_their_edges(self):
        for marks in [((1,), (), (), ()), ((63, 63), (), (), ()), ((1,), (63, 1), (), ())]:
            self.assertEqual(made_table([A], marks, ())[1], marks)
        for marks in [((), (), (1,), (63,)), ((), (), (1, 63), (63, 1)), ALL_MARKS]:
            self.assertEqual(made_table([A], marks, (1,))[1], marks)
            self.assertEqual(made_table([A], marks, TEN)[2], TEN)

    def test_what_is_no_mark(self):
        for number in range(4):
            for mark in [(0,), (64,), (-1,), (1, 0), (64, 1), (1, 2, 3), (1,) * 4000]:
                marks = ALL_MARKS[:number] + (mark,) + ALL_MARKS[number + 1:]
                self.assert_refused(NoMark, number, [A], marks, TEN)

    def test_the_first_that_is_no_mark(self):
        self.assert_refused(NoMark, 0, [A], [[0]] * 4, [0])
        self.assert_refused(NoMark, 1, [A], [[], [0], [1], [0]], [0])
        self.assert_refused(NoMark, 3, [A], [[], [1], [], [0]], [1])

    def test_what_are_no_figures(self):
        for figures in [(0,), (64,), (-1,), (1, 2, 0), TEN + (2,), (0,) * 11, (1,) * 4000]:
            self.assert_refused(NoMark, 4, [A], ALL_MARKS, figures)

    def test_no_figures_goes_ahead_of_what_does_not_go_together(self):
        self.assert_refused(NoMark, 4, [A], [[], [1], [], []], [0])

    def test_figures_may_be_alike(self):
        self.assertEqual(made_table([A], ALL_MARKS, (5,) * 10)[2], (5,) * 10)

    def test_mark_1_needs_mark_0(self):
        self.assert_refused(NoMark, 1, [A], [[], [1], [], []])
        self.assert_refused(NoMark, 1, [A], [[], [1, 2], [1], [1]], TEN)
        self.assert_refused(NoMark, 1, [A], [[], [1], [1], []])
        self.assert_refused(NoMark, 1, [A], [[], [1], [], [1]], TEN)

    def test_mark_2_goes_with_the_figures(self):
        self.assert_refused(NoMark, 2, [A], [[], [], [1], []])
        self.assert_refused(NoMark, 2, [A], [[], [], [1], [1]])
        self.assert_refused(NoMark, 2, [A], [[], [], [], [1]], [1])
        self.assert_refused(NoMark, 2, [A], [[1], [1], [], []], TEN)

    def test_mark_3_goes_with_the_figures(self):
        self.assert_refused(NoMark, 3, [A], [[], [], [], [1]])
        self.assert_refused(NoMark, 3, [A], [[1], [], [1], []], [1])

    def test_no_letter(self):
        self.assert_refused(NoLetter, "a", [("a", (1,), "wbm")])
        self.assert_refused(NoLetter, "a", [("a", (1,), "w"), ("a", (2,), "bme")])
        self.assert_refused(NoLetter, "b", [A, ("ab", (2,), "wbme")])
        self.assert_refused(NoLetter, "a", [("aa", (1,), "wbme")])
        self.assert_refused(NoLetter, "z", [A, ("az", (2,), "w")])

    def test_the_least_letter(self):
        self.assert_refused(NoLetter, "b", [A, ("zyx", (2,), "w"), ("cab", (3,), "w")])
        self.assert_refused(NoLetter, "c", [A, B, ("xc", (2,), "w"), ("d", (4,), "e")])

    def test_a_form_of_its_own_may_stand_anywhere(self):
        forms = [("ab", (2,), "w"), ("b", (5,), "e"), B, A, ("a", (7,), "m")]
        self.assertEqual(made_table(forms, NO_MARKS, ())[0], tuple(forms))

    def test_which_goes_first(self):
        none, alone, marks = ("a", (0,), "w"), ("q", (5,), "w"), [[], [1], [], []]
        self.assert_refused(NoForm, 0, [], [[0]] * 4, [0])
        self.assert_refused(NoForm, 3, [A, A, alone, none], marks)
        self.assert_refused(Twice, 1, [A, A, alone], marks)
        self.assert_refused(Twice, 2, [A, alone, alone], [[0]] * 4, [0])
        self.assert_refused(NoMark, 1, [A, alone], marks)
        self.assert_refused(NoMark, 3, [A, alone], [[], [], [], [1]])
        self.assert_refused(NoLetter, "q", [A, alone])


class SignsTest(unittest.TestCase):
    def test_letters_alone(self):
        self.assertEqual(signs_of(made_table([A], NO_MARKS, ())), " a")
        self.assertEqual(signs_of(made_table([C, ("cab", (7,), "w"), B, A], NO_MARKS, ())), " abc")

    def test_great_ones(self):
        self.assertEqual(signs_of(made_table([B, A], [[32], [], [], []], ())), " ABab")
        self.assertEqual(signs_of(made_table([B, A], [[32], [5], [], []], ())), " ABab")

    def test_figures(self):
        marks = [[], [], [60], [48]]
        self.assertEqual(signs_of(made_table([A], marks, [1])), " 0a")
        self.assertEqual(signs_of(made_table([A], marks, [9, 9, 9])), " 012a")
        self.assertEqual(signs_of(made_table([A], marks, TEN)), " 0123456789a")

    def test_all_of_them(self):
        table = made_table([C, A, B, ("a", (2,), "e")], ALL_MARKS, TEN)
        self.assertEqual(signs_of(table), " 0123456789ABCabc")
        self.assertIs(type(signs_of(table)), str)

    def test_sorted_and_each_once(self):
        table = made_table(letters_forms(24)[::-1], ALL_MARKS, TEN)
        signs = signs_of(table)
        self.assertEqual(list(signs), sorted(set(signs)))
        self.assertEqual(len(signs), 24 + 24 + 10 + 1)

    def test_arguments_bear_their_names(self):
        table = made_table([A], NO_MARKS, ())
        self.assertEqual(signs_of(table=table), " a")
        self.assertIs(is_text(table=table, text="a"), True)


class TextTest(unittest.TestCase):
    def assert_texts(self, table, good, bad):
        for text in good:
            self.assertIs(is_text(table, text), True, repr(text))
        for text in bad:
            self.assertIs(is_text(table, text), False, repr(text))

    def test_letters_alone(self):
        table = made_table([A, B], NO_MARKS, ())
        self.assert_texts(table, ["", " ", "  ", "a", "ba ab", " b", "ab" * 100],
                          ["c", "A", "aB", "0", "a\n", "\n", "ab-", "a" * 199 + "c", "c" + "a" * 199, "~"])

    def test_great_ones(self):
        table = made_table([A, B], [[32], [], [], []], ())
        self.assert_texts(table, ["", "A", "aB AB"], ["C", "Ac", "0", "A\n"])

    def test_figures(self):
        table = made_table([A], [[], [], [60], [48]], [1, 2])
        self.assert_texts(table, ["", "0", "1a 10", "a1"], ["2", "02", "9", "A", "1A"])

    def test_all_signs_by_themselves(self):
        for table in [made_table([A, C], NO_MARKS, ()), made_table([A, C], ALL_MARKS, TEN)]:
            signs = signs_of(table)
            for sign in [chr(code) for code in range(32, 127)] + ["\n"]:
                self.assertIs(is_text(table, sign), sign in signs, repr(sign))


if __name__ == "__main__":
    unittest.main()
