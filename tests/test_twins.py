"""Points 19 and 20: what one walk has told beyond another one, and the twins of a table."""

import os.path
import random
import unittest

from dots.errors import DotError, TooMany
from dots.spots import FIRST
from dots.tables import made_table
from dots.twins import told_on, twins_of
from samples import A, B, FULL, NO_MARKS, ONE, TABLES, some_tables, twins_again

OUT = ("out", (), "")
IN = ("in", (), "")
DONE = ("done", (), "")
NUM = ("num", (), "")
LET = ("let", (), "")
ALL = ("all", (), "")


class ToldOnTest(unittest.TestCase):
    def test_texts_of_no_signs(self):
        self.assertEqual(told_on("", "", "", ""), ("", ""))
        self.assertEqual(told_on("ab", "", "", ""), ("ab", ""))
        self.assertEqual(told_on("", "ab", "", ""), ("", "ab"))
        self.assertEqual(told_on("", "", "a", ""), ("a", ""))
        self.assertEqual(told_on("", "", "", "a"), ("", "a"))

    def test_both_alike(self):
        self.assertEqual(told_on("", "", "ab", "ab"), ("", ""))
        self.assertEqual(told_on("ab", "", "c", "abc"), ("", ""))
        self.assertEqual(told_on("", "ab", "abc", "c"), ("", ""))
        self.assertEqual(told_on("ab", "", "", "ab"), ("", ""))

    def test_one_is_the_beginning_of_the_other(self):
        self.assertEqual(told_on("", "", "abc", "a"), ("bc", ""))
        self.assertEqual(told_on("", "", "a", "abc"), ("", "bc"))
        self.assertEqual(told_on("ab", "", "c", "a"), ("bc", ""))
        self.assertEqual(told_on("a", "", "b", "abc"), ("", "c"))
        self.assertEqual(told_on("", "a", "ab", "c"), ("b", "c"))
        self.assertEqual(told_on("aa", "", "a", "a"), ("aa", ""))

    def test_they_part(self):
        self.assertEqual(told_on("", "", "a", "b"), ("a", "b"))
        self.assertEqual(told_on("", "", "abx", "aby"), ("x", "y"))
        self.assertEqual(told_on("ab", "", "", "ac"), ("b", "c"))
        self.assertEqual(told_on("", "", "a", "A"), ("a", "A"))
        self.assertEqual(told_on("", "", "axb", "ayb"), ("xb", "yb"))

    def test_parted_ahead_of_it(self):
        self.assertEqual(told_on("a", "b", "c", "c"), ("ac", "bc"))
        self.assertEqual(told_on("a", "b", "", "a"), ("a", "ba"))

    def test_any_texts(self):
        self.assertEqual(told_on("ab", "ac", "x", "y"), ("bx", "cy"))
        self.assertEqual(told_on("\n ~", "\n", "a", " ~a\n"), ("", "\n"))
        self.assertEqual(told_on("ab", "ab", "", ""), ("", ""))
        self.assertEqual(told_on("a" * 200, "", "", "a" * 199), ("a", ""))

    def test_many_texts(self):
        chance = random.Random(9)
        for k in range(2000):
            texts = ["".join(chance.choice("aab") for sign in range(chance.randint(0, 5))) for text in range(4)]
            one = texts[0] + texts[2]
            two = texts[1] + texts[3]
            count = len(os.path.commonprefix([one, two]))
            told = told_on(*texts)
            self.assertEqual(told, (one[count:], two[count:]))
            self.assertIs(type(told), tuple)
            self.assertEqual(told, told_on(one, two, "", ""))

    def test_arguments_bear_their_names(self):
        self.assertEqual(told_on(ahead="ab", behind="", text="x", other="a"), ("bx", ""))


class TwinsTest(unittest.TestCase):
    def assert_twins(self, table, twins):
        told = twins_of(table, 10000)
        self.assertEqual(sorted(told), sorted(twins))

    def test_without_marks(self):
        self.assert_twins(ONE, [(OUT, OUT), (IN, IN), (IN, DONE), (DONE, IN), (DONE, DONE)])

    def test_within_edges(self):
        table = made_table([A, ("aa", (1, 2), "w")], NO_MARKS, ())
        spot = ("done", (2,), "aa")
        self.assert_twins(table, [
            (OUT, OUT), (IN, IN), (IN, DONE), (DONE, IN), (DONE, DONE),
            (spot, spot), (spot, IN), (IN, spot), (spot, DONE), (DONE, spot)])

    def test_with_mark_0(self):
        table = made_table([A], ((32,), (), (), ()), ())
        ended = ("done", (1,), "A")
        begun = ("in", (1,), "A")
        self.assert_twins(table, [(OUT, OUT)] + [(one, other) for one in (IN, DONE) for other in (IN, DONE)]
                          + [(one, other) for one in (begun, ended) for other in (begun, ended)])

    def test_with_figures(self):
        table = made_table([A], ((), (), (60,), (48,)), (1,))
        spot = ("num", (1,), "0")
        self.assert_twins(table, [(OUT, OUT), (NUM, NUM), (LET, LET), (spot, spot)]
                          + [(one, other) for one in (IN, DONE) for other in (IN, DONE)])

    def test_a_word_all_great(self):
        table = made_table([A], ((32,), (6,), (), ()), ())
        begun = ("all", (1,), "A")
        twins = twins_of(table, 10000)
        for twin in [(begun, begun), (ALL, ALL), (ALL, DONE), (DONE, ALL)]:
            self.assertIn(twin, twins)
        for twin in [(OUT, ALL), (IN, ALL), (begun, ("in", (1,), "A"))]:
            self.assertNotIn(twin, twins)

    def test_unlike_texts_written_alike(self):
        table = made_table([A, ("b", (1, 1), "wbme")], NO_MARKS, ())
        twins = twins_of(table, 10000)
        for twin in [(DONE, DONE), (DONE, ("in", (1,), "b")), (IN, ("done", (1,), "b"))]:
            self.assertIn(twin, twins)
            self.assertIn((twin[1], twin[0]), twins)

    def test_the_first_spot_with_itself(self):
        for table in TABLES + some_tables(20):
            self.assertIn((FIRST, FIRST), twins_of(table, 10000))

    def test_against_a_plain_walk(self):
        for table in TABLES + some_tables(60) + some_tables(60, top=4, seed=2) + some_tables(60, top=2, seed=3):
            told = twins_of(table, 10000)
            self.assertEqual(len(told), len(set(told)))
            self.assertEqual(set(told), twins_again(table))

    def test_both_orders(self):
        for table in TABLES:
            told = twins_of(table, 10000)
            self.assertEqual({(other, one) for one, other in told}, set(told))

    def test_too_many(self):
        self.assertEqual(len(twins_of(ONE, 5)), 5)
        for most in range(1, 5):
            with self.assertRaises(TooMany) as caught:
                twins_of(ONE, most)
            self.assertIs(type(caught.exception), TooMany)
            self.assertEqual(caught.exception.most, most)
        self.assertEqual(TooMany.__bases__, (DotError,))

    def test_just_as_many_are_not_too_many(self):
        for table in TABLES + some_tables(20, top=3):
            count = len(twins_again(table))
            self.assertEqual(len(twins_of(table, count)), count)
            with self.assertRaises(TooMany) as caught:
                twins_of(table, count - 1)
            self.assertEqual(caught.exception.most, count - 1)

    def test_great_tables(self):
        # 24 forms, each mark, ten figures, and all that is written begins alike.
        letters = "abcdefghijklmnopqrstuvwx"
        marks = ((1,), (1, 1), (1,), (1, 1))
        table = made_table([(letter, (1, 1, 1, 1), "wbme") for letter in letters], marks, (1,) * 10)
        for most in [1, 2000, 10000]:
            with self.assertRaises(TooMany) as caught:
                twins_of(table, most)
            self.assertEqual(caught.exception.most, most)
        # Behind one, two and three cells: 48 spots each, by which the spots out, in and done are met.
        table = made_table([(letter, (1, 1, 1, 1), "wbme") for letter in letters], NO_MARKS, ())
        self.assertEqual(len(twins_of(table, 10000)), 5 + 3 * 48 * 48)
        self.assertEqual(len(twins_of(table, 5 + 3 * 48 * 48)), 5 + 3 * 48 * 48)

    def test_kinds(self):
        told = twins_of(FULL, 10000)
        self.assertIs(type(told), list)
        for twin in told:
            self.assertIs(type(twin), tuple)
            self.assertEqual(len(twin), 2)
            for spot in twin:
                self.assertIs(type(spot), tuple)
                self.assertEqual([type(part) for part in spot], [str, tuple, str])

    def test_the_list_told_is_the_askers_own(self):
        told = twins_of(FULL, 10000)
        before = set(told)
        told.clear()
        other = twins_of(FULL, 10000)
        self.assertEqual(set(other), before)
        twins_of(made_table([A, B], NO_MARKS, ()), 10000)
        self.assertEqual(set(other), before)

    def test_nothing_hangs_on_a_refusal_ahead(self):
        with self.assertRaises(TooMany):
            twins_of(FULL, 1)
        self.assertEqual(set(twins_of(FULL, 10000)), twins_again(FULL))

    def test_arguments_bear_their_names(self):
        self.assertEqual(len(twins_of(table=ONE, most=5)), 5)


if __name__ == "__main__":
    unittest.main()
