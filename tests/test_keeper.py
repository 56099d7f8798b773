"""Point 27: keepers of sure tables."""

import copy
import unittest

from dots.errors import (
    DotError, NoEntry, NoForm, NoLetter, NoReading, NoSign, TooMany, Twice, Two)
from dots.keeper import Keeper
from dots.looks import shows_two
from dots.sure import settled
from dots.tables import made_table
from dots.twins import twins_of
from dots.writing import is_written, written
from samples import (
    A, ALIKE, ALL_GREAT, B, C, FIGURES, FULL, GREAT, LARGE, LARGER, NO_MARKS, ONE, PLAIN, some_tables, sure_tables)

TWO_LETTERS = made_table([A, B], NO_MARKS, ())
AB = ("ab", (5,), "w")


def refusal_of(case, kind, call, *args):
    """The refusal of just this kind that a call raises."""
    with case.assertRaises(DotError) as caught:
        call(*args)
    case.assertIs(type(caught.exception), kind)
    return caught.exception


class MakingTest(unittest.TestCase):
    def test_sure_tables(self):
        for table in [ONE, PLAIN, FULL, LARGE] + sure_tables(10):
            self.assertEqual(Keeper(table).table(), table)
            self.assertEqual(Keeper(table, 2000).table(), table)

    def test_tables_that_are_not_sure(self):
        for table in [GREAT, ALL_GREAT, FIGURES, ALIKE]:
            refusal = refusal_of(self, Two, Keeper, table)
            self.assertTrue(shows_two(table, refusal.row, refusal.text, refusal.other))
            self.assertEqual([type(part) for part in (refusal.row, refusal.text, refusal.other)], [tuple, str, str])

    def test_too_many_goes_ahead_of_two(self):
        for table in [ONE, FULL, GREAT, ALIKE]:
            count = len(twins_of(table, 10000))
            for most in (1, count - 1):
                self.assertEqual(refusal_of(self, TooMany, Keeper, table, most).most, most)
            if settled(table)[0] == "sure":
                self.assertEqual(Keeper(table, count).table(), table)
            else:
                refusal_of(self, Two, Keeper, table, count)

    def test_most_left_out_is_2000(self):
        self.assertEqual(refusal_of(self, TooMany, Keeper, LARGER).most, 2000)
        self.assertEqual(Keeper(LARGE).table(), LARGE)
        self.assertEqual(Keeper(LARGER, 2001).table(), LARGER)

    def test_arguments_bear_their_names(self):
        keeper = Keeper(table=ONE, most=5)
        self.assertIsNone(keeper.put(form=("a", (7,), "w")))
        self.assertIsNone(keeper.strike(letters="a", cells=(7,)))
        self.assertEqual(keeper.write(text="a"), (1,))
        self.assertEqual(keeper.read(row=(1,)), "a")


class PutTest(unittest.TestCase):
    def assert_refused(self, keeper, kind, form):
        before = copy.deepcopy(keeper.table())
        refusal = refusal_of(self, kind, keeper.put, form)
        self.assertEqual(keeper.table(), before)
        return refusal

    def test_behind_all_others(self):
        keeper = Keeper(TWO_LETTERS)
        self.assertIsNone(keeper.put(AB))
        self.assertEqual(keeper.table(), ((A, B, AB), NO_MARKS, ()))
        self.assertIsNone(keeper.put(C))
        self.assertIsNone(keeper.put(("aa", (7,), "b")))
        self.assertEqual(keeper.table(), ((A, B, AB, C, ("aa", (7,), "b")), NO_MARKS, ()))

    def test_marks_and_figures_stay(self):
        keeper = Keeper(FULL)
        keeper.put(("bb", (9, 9), "w"))
        self.assertEqual(keeper.table(), (FULL[0] + (("bb", (9, 9), "w"),), FULL[1], FULL[2]))

    def test_no_form(self):
        keeper = Keeper(TWO_LETTERS)
        for form in [("", (5,), "w"), ("abababa", (5,), "w"), ("aB", (5,), "w"), ("a b", (5,), "w"), ("a\n", (5,), "w"),
                     ("ab", (), "w"), ("ab", (1, 2, 3, 4, 5), "w"), ("ab", (0,), "w"), ("ab", (64,), "w"),
                     ("ab", (-1,), "w"), ("ab", (10 ** 30,), "w"), ("ab", (5,), ""), ("ab", (5,), "ew"),
                     ("ab", (5,), "ww"), ("ab", (5,), "x"), ("ab", (5,), "wbmee"), ("~" * 200, (5,), "w")]:
            self.assertEqual(self.assert_refused(keeper, NoForm, form).number, 2)

    def test_no_form_goes_ahead_of_the_rest(self):
        # No form, and its letter has none of its own.
        keeper = Keeper(TWO_LETTERS, 5)
        self.assertEqual(self.assert_refused(keeper, NoForm, ("d", (0,), "w")).number, 2)

    def test_more_than_24_forms(self):
        letters = "abcdefghijklmnopqrstuvwx"
        forms = [(letter, (number + 1,), "wbme") for number, letter in enumerate(letters)]
        keeper = Keeper(made_table(forms[:23], NO_MARKS, ()))
        self.assertIsNone(keeper.put(forms[23]))
        self.assertEqual(self.assert_refused(keeper, NoForm, ("y", (25,), "wbme")).number, 24)
        self.assertEqual(self.assert_refused(keeper, NoForm, forms[0]).number, 24)
        self.assertEqual(self.assert_refused(keeper, NoForm, ("", (), "")).number, 24)

    def test_twice(self):
        keeper = Keeper(made_table([A, B, AB], NO_MARKS, ()))
        self.assertEqual(self.assert_refused(keeper, Twice, AB).number, 3)
        self.assertEqual(self.assert_refused(keeper, Twice, ("ab", (5,), "bme")).number, 3)
        self.assertEqual(self.assert_refused(keeper, Twice, A).number, 3)
        self.assertEqual(self.assert_refused(keeper, Twice, ("a", (1,), "e")).number, 3)
        keeper.put(("ab", (5, 5), "w"))
        self.assertEqual(self.assert_refused(keeper, Twice, AB).number, 4)

    def test_no_letter(self):
        keeper = Keeper(TWO_LETTERS)
        self.assertEqual(self.assert_refused(keeper, NoLetter, ("abd", (5,), "w")).letter, "d")
        self.assertEqual(self.assert_refused(keeper, NoLetter, ("zxy", (5,), "w")).letter, "x")
        self.assertEqual(self.assert_refused(keeper, NoLetter, ("c", (9,), "wbm")).letter, "c")

    def test_no_letter_goes_ahead_of_too_many_and_two(self):
        keeper = Keeper(TWO_LETTERS, 5)
        self.assertEqual(self.assert_refused(keeper, NoLetter, ("ad", (1, 2), "w")).letter, "d")
        self.assertEqual(self.assert_refused(keeper, NoLetter, ("d", (1,), "w")).letter, "d")

    def test_too_many_by_the_keepers_own_most(self):
        # Within the form stands one more spot: with itself, IN and DONE it makes five twins.
        form = ("ab", (1, 3), "w")
        for most in (5, 9):
            keeper = Keeper(TWO_LETTERS, most)
            self.assertEqual(self.assert_refused(keeper, TooMany, form).most, most)
        keeper = Keeper(TWO_LETTERS, 10)
        self.assertIsNone(keeper.put(form))
        self.assertEqual(self.assert_refused(keeper, TooMany, ("ba", (3, 1), "w")).most, 10)

    def test_too_many_where_most_was_left_out(self):
        keeper = Keeper(LARGE)
        self.assertEqual(self.assert_refused(keeper, TooMany, ("ab", (1, 1, 60), "w")).most, 2000)
        # Just 2,000 are not too many.
        self.assertIsNone(keeper.strike("i", (1, 1, 9)))
        self.assertIsNone(keeper.put(LARGE[0][8]))

    def test_too_many_goes_ahead_of_two(self):
        form = ("b", (1, 1), "w")
        refusal = self.assert_refused(Keeper(TWO_LETTERS), Two, form)
        self.assertTrue(shows_two(((A, B, form), NO_MARKS, ()), refusal.row, refusal.text, refusal.other))
        self.assertEqual(self.assert_refused(Keeper(TWO_LETTERS, 5), TooMany, form).most, 5)

    def test_two(self):
        keeper = Keeper(FULL)
        for form in [("b", (1,), "wbme"), ("a", (3,), "w"), ("ba", (5,), "e"), ("aa", (1, 5), "m"),
                     ("b", (60, 26), "w")]:
            refusal = self.assert_refused(keeper, Two, form)
            table = (FULL[0] + (form,), FULL[1], FULL[2])
            self.assertTrue(shows_two(table, refusal.row, refusal.text, refusal.other))
        self.assertIsNone(keeper.put(("ba", (17,), "e")))

    def test_drawn_forms(self):
        seen = set()
        for table, other in zip(sure_tables(30, seed=8), some_tables(30, top=9, seed=9)):
            keeper = Keeper(table)
            for form in other[0]:
                with_it = keeper.table()[0] + (form,)
                before = keeper.table()
                try:
                    self.assertIsNone(keeper.put(form))
                    self.assertEqual(keeper.table(), (with_it, table[1], table[2]))
                    seen.add(None)
                except DotError as refusal:
                    self.assertEqual(keeper.table(), before)
                    seen.add(type(refusal))
                self.assertEqual(settled(keeper.table())[0], "sure")
        self.assertLessEqual({None, Twice, Two}, seen)


class StrikeTest(unittest.TestCase):
    def assert_refused(self, keeper, kind, letters, cells):
        before = copy.deepcopy(keeper.table())
        refusal = refusal_of(self, kind, keeper.strike, letters, cells)
        self.assertEqual(keeper.table(), before)
        return refusal

    def test_by_letters_and_cells(self):
        keeper = Keeper(made_table([A, B, AB, ("ab", (5, 5), "e"), ("ba", (7,), "b")], NO_MARKS, ()))
        self.assertIsNone(keeper.strike("ab", (5,)))
        self.assertEqual(keeper.table(), ((A, B, ("ab", (5, 5), "e"), ("ba", (7,), "b")), NO_MARKS, ()))
        self.assertIsNone(keeper.strike("ba", (7,)))
        self.assertIsNone(keeper.strike("ab", (5, 5)))
        self.assertEqual(keeper.table(), ((A, B), NO_MARKS, ()))

    def test_marks_and_figures_stay(self):
        keeper = Keeper(FULL)
        keeper.strike("ab", (5,))
        self.assertEqual(keeper.table(), (FULL[0][:2] + FULL[0][3:], FULL[1], FULL[2]))

    def test_no_entry(self):
        keeper = Keeper(made_table([A, B, AB], NO_MARKS, ()))
        for letters, cells in [("ab", (1,)), ("ba", (5,)), ("a", (5,)), ("ab", ()), ("", ()), ("", (5,)),
                               ("ab", (5, 5)), ("AB", (5,)), ("ab ", (5,)), ("zz", (64, -1)),
                               ("~\n" * 100, (0,) * 1300)]:
            refusal = self.assert_refused(keeper, NoEntry, letters, cells)
            self.assertEqual([type(word) for word in refusal.args], [str])

    def test_a_form_struck_is_there_no_more(self):
        keeper = Keeper(made_table([A, B, AB], NO_MARKS, ()))
        keeper.strike("ab", (5,))
        self.assert_refused(keeper, NoEntry, "ab", (5,))

    def test_the_last_form(self):
        self.assertEqual(self.assert_refused(Keeper(ONE), NoForm, "a", (1,)).number, 0)

    def test_no_letter(self):
        keeper = Keeper(made_table([A, B, AB], NO_MARKS, ()))
        self.assertEqual(self.assert_refused(keeper, NoLetter, "a", (1,)).letter, "a")
        self.assertEqual(self.assert_refused(keeper, NoLetter, "b", (3,)).letter, "b")
        keeper.strike("ab", (5,))
        self.assertIsNone(keeper.strike("b", (3,)))
        self.assertEqual(keeper.table(), ((A,), NO_MARKS, ()))

    def test_a_letter_with_two_forms(self):
        keeper = Keeper(made_table([A, ("a", (2,), "wbme"), ("aa", (7,), "w"), ("a", (8,), "wme")], NO_MARKS, ()))
        self.assertIsNone(keeper.strike("a", (1,)))
        # The form that is left has not all places.
        self.assertEqual(self.assert_refused(keeper, NoLetter, "a", (2,)).letter, "a")
        self.assertIsNone(keeper.strike("a", (8,)))

    def test_struck_and_put_in_again(self):
        keeper = Keeper(made_table([A, AB, B, ("ba", (7,), "b")], NO_MARKS, ()))
        keeper.strike("ab", (5,))
        self.assertIsNone(keeper.put(AB))
        self.assertEqual(keeper.table(), ((A, B, ("ba", (7,), "b"), AB), NO_MARKS, ()))

    def test_what_is_left_is_sure(self):
        for table in [PLAIN, FULL] + sure_tables(20, seed=2):
            for letters, cells, places in table[0]:
                keeper = Keeper(table)
                try:
                    keeper.strike(letters, cells)
                except NoLetter:
                    self.assertEqual(keeper.table(), table)
                self.assertEqual(settled(keeper.table())[0], "sure")

    def test_it_is_not_held_back_by_most(self):
        # Twins that fill the bound are fewer behind it.
        table = made_table([A, B, ("ab", (1, 3), "w")], NO_MARKS, ())
        keeper = Keeper(table, 10)
        self.assertIsNone(keeper.strike("ab", (1, 3)))
        self.assertIsNone(keeper.put(("ab", (1, 3), "w")))


class WriteAndReadTest(unittest.TestCase):
    def test_by_the_table_of_then(self):
        keeper = Keeper(TWO_LETTERS)
        self.assertEqual(keeper.write("ab"), (1, 3))
        self.assertEqual(keeper.read((1, 3)), "ab")
        self.assertEqual(refusal_of(self, NoReading, keeper.read, (5,)).place, 0)
        keeper.put(AB)
        self.assertEqual(keeper.write("ab"), (5,))
        self.assertEqual(keeper.read((5,)), "ab")
        self.assertEqual(keeper.read((1, 3)), "ab")
        keeper.strike("ab", (5,))
        self.assertEqual(keeper.write("ab"), (1, 3))
        self.assertEqual(refusal_of(self, NoReading, keeper.read, (1, 0, 5)).place, 2)

    def test_no_sign(self):
        keeper = Keeper(TWO_LETTERS)
        self.assertEqual(refusal_of(self, NoSign, keeper.write, "abc").place, 2)
        self.assertEqual(refusal_of(self, NoSign, keeper.write, "A").place, 0)
        keeper.put(C)
        self.assertEqual(keeper.write("abc"), (1, 3, 9))

    def test_text_and_row_of_none(self):
        keeper = Keeper(FULL)
        self.assertEqual(keeper.write(""), ())
        self.assertEqual(keeper.read(()), "")

    def test_the_fewest_cells(self):
        for table in [PLAIN, FULL] + sure_tables(5):
            keeper = Keeper(table)
            for text in ["", "a", "ab", "abba", "aab ab", " ba  abb "]:
                row = keeper.write(text)
                self.assertIs(type(row), tuple)
                self.assertTrue(is_written(table, text, row))
                self.assertEqual(len(row), len(written(table, text)[0]))
                self.assertEqual(keeper.read(row), text)

    def test_behind_a_refusal(self):
        keeper = Keeper(TWO_LETTERS)
        refusal_of(self, Two, keeper.put, ("b", (1,), "w"))
        refusal_of(self, NoLetter, keeper.put, ("c", (9,), "w"))
        self.assertEqual(keeper.read((1,)), "a")
        self.assertEqual(refusal_of(self, NoSign, keeper.write, "c").place, 0)
        self.assertEqual(refusal_of(self, NoReading, keeper.read, (9,)).place, 0)


class OwnTableTest(unittest.TestCase):
    def test_keepers_beside_each_other(self):
        one = Keeper(TWO_LETTERS)
        other = Keeper(TWO_LETTERS, 5)
        one.put(("ab", (1, 3), "w"))
        self.assertEqual(other.table(), TWO_LETTERS)
        self.assertEqual(refusal_of(self, TooMany, other.put, ("ab", (1, 3), "w")).most, 5)
        other.strike("b", (3,))
        self.assertEqual(one.table(), ((A, B, ("ab", (1, 3), "w")), NO_MARKS, ()))
        self.assertEqual(other.table(), ONE)
        self.assertEqual(TWO_LETTERS, ((A, B), NO_MARKS, ()))

    def test_a_table_told_stays(self):
        keeper = Keeper(TWO_LETTERS)
        before = keeper.table()
        keeper.put(AB)
        self.assertEqual(before, ((A, B), NO_MARKS, ()))

    def test_kinds(self):
        keeper = Keeper(FULL)
        keeper.put(("bb", (9, 9), "w"))
        keeper.strike("ab", (5,))
        table = keeper.table()
        self.assertEqual([type(part) for part in (table,) + table], [tuple] * 4)
        for form in table[0]:
            self.assertEqual([type(part) for part in (form,) + form], [tuple, str, tuple, str])
        self.assertEqual([type(mark) for mark in table[1]], [tuple] * 4)

    def test_a_sure_table_at_all_times(self):
        for table in some_tables(60, top=8, seed=5):
            try:
                keeper = Keeper(table)
            except Two:
                self.assertEqual(settled(table)[0], "two")
                continue
            self.assertEqual(settled(keeper.table())[0], "sure")


if __name__ == "__main__":
    unittest.main()
