"""Point 21: whether a table is sure, and what shows it."""

import unittest

from dots.errors import DotError, TooMany
from dots.sure import settled
from dots.tables import made_table
from dots.twins import twins_of
from samples import (
    A, ALIKE, ALL_GREAT, B, C, FIGURES, FULL, GREAT, LARGE, LARGER, NO_MARKS, ONE, PLAIN, TABLES, edges_again,
    lives_again, rows_from, some_tables, sure_tables, steps_again, beyond, texts_of_rows, told_again)

OUT = ("out", (), "")
IN = ("in", (), "")
DONE = ("done", (), "")
NUM = ("num", (), "")
LET = ("let", (), "")
# Drawn tables: nearly all sure, some sure and some not, nearly none sure.
DRAWN = some_tables(40) + some_tables(40, top=6, seed=2) + some_tables(60, top=2, seed=3)


def walks_of_rows(table, most):
    """For each row of at most so many cells the set of (spot, text) to which walks by it lead, and what they tell."""
    edges = edges_again(table)
    cells = sorted({cell for edge in edges for cell in edge[2]})
    found = {(): {(OUT, "")}}
    layer = [()]
    for count in range(most):
        rows = []
        for row in layer:
            for cell in cells:
                behind = {(there, text + told) for spot, text in found[row]
                          for there, told in steps_again(edges, spot, cell)}
                if behind:
                    found[row + (cell,)] = behind
                    rows.append(row + (cell,))
        layer = rows
    return found


class SureTest(unittest.TestCase):
    def assert_sure(self, table, lives, deads):
        told = settled(table)
        self.assertEqual(told[0], "sure")
        self.assertEqual(sorted(told[1]), sorted(lives))
        self.assertEqual(sorted(told[2]), sorted(deads))

    def assert_whole(self, table):
        """A sure table, all its twins once each, and told there what a plain walk tells."""
        word, lives, deads = settled(table, 10000)
        self.assertEqual(word, "sure")
        self.assertEqual({live[:2]: live[2:] for live in lives}, told_again(table))
        self.assertEqual(set(deads), lives_again(table)[1])
        self.assertEqual(len(lives), len({live[:2] for live in lives}))
        self.assertEqual(len(deads), len(set(deads)))
        twins = [live[:2] for live in lives] + deads
        self.assertEqual(sorted(twins), sorted(twins_of(table, 10000)))

    def test_without_marks(self):
        self.assert_sure(ONE, [(OUT, OUT, "", ""), (IN, IN, "", ""), (DONE, DONE, "", "")], [(IN, DONE), (DONE, IN)])

    def test_something_is_told_ahead_and_behind(self):
        spot = ("done", (3,), "ab")
        self.assert_sure(
            made_table([A, B, ("ab", (1, 3), "w")], NO_MARKS, ()),
            [(OUT, OUT, "", ""), (IN, IN, "", ""), (DONE, DONE, "", ""), (spot, spot, "", ""), (IN, spot, "a", ""),
             (spot, IN, "", "a")],
            [(IN, DONE), (DONE, IN), (spot, DONE), (DONE, spot)])

    def test_two_letters_are_told_ahead(self):
        table = made_table([A, B, C, ("abc", (1, 3, 9), "w")], NO_MARKS, ())
        lives = settled(table)[1]
        self.assertIn((IN, ("done", (3, 9), "abc"), "a", ""), lives)
        self.assertIn((IN, ("done", (9,), "abc"), "ab", ""), lives)
        self.assertIn((("done", (9,), "abc"), IN, "", "ab"), lives)
        self.assert_whole(table)

    def test_with_mark_0(self):
        ended = ("done", (1,), "A")
        begun = ("in", (1,), "A")
        self.assert_sure(
            made_table([A], ((32,), (), (), ()), ()),
            [(spot, spot, "", "") for spot in (OUT, IN, DONE, ended, begun)],
            [(IN, DONE), (DONE, IN), (ended, begun), (begun, ended)])

    def test_with_figures(self):
        spot = ("num", (1,), "0")
        self.assert_sure(
            made_table([A], ((), (), (60,), (48,)), (1,)),
            [(there, there, "", "") for there in (OUT, IN, DONE, NUM, LET, spot)], [(IN, DONE), (DONE, IN)])

    def test_with_words_all_great(self):
        table = made_table([A, B, ("ab", (1, 3), "w")], ((32,), (6,), (), ()), ())
        lives = settled(table)[1]
        spot = ("done", (1, 3), "AB")
        self.assertIn((("all", (1,), "A"), spot, "", ""), lives)
        self.assertIn((("all", (), ""), ("done", (3,), "AB"), "A", ""), lives)
        self.assert_whole(table)

    def test_sure_samples(self):
        for table in [ONE, PLAIN, FULL]:
            self.assert_whole(table)

    def test_drawn_tables(self):
        sure = [table for table in DRAWN if told_again(table) is not None]
        self.assertGreater(len(sure), 40)
        for table in sure + sure_tables(40):
            self.assert_whole(table)

    def test_what_all_walks_have_told(self):
        met = 0
        for table in [PLAIN] + sure_tables(12, seed=3):
            told = {live[:2]: live[2:] for live in settled(table)[1]}
            for walks in walks_of_rows(table, 4).values():
                for one, text in walks:
                    for other, other_text in walks:
                        if (one, other) in told:
                            self.assertEqual(told[(one, other)], beyond(text, other_text))
                            met += text != other_text
        self.assertGreater(met, 100)

    def test_kinds(self):
        for table in [FULL] + sure_tables(3):
            told = settled(table)
            self.assertEqual([type(part) for part in told], [str, list, list])
            self.assertIs(type(told), tuple)
            for live in told[1]:
                self.assertEqual([type(part) for part in live], [tuple, tuple, str, str])
                self.assertIs(type(live), tuple)
            for dead in told[2]:
                self.assertEqual([type(part) for part in dead], [tuple, tuple])
                self.assertIs(type(dead), tuple)

    def test_what_is_told_is_the_askers_own(self):
        told = settled(FULL)
        lives = sorted(told[1])
        deads = sorted(told[2])
        told[1].clear()
        told[2].append("x")
        other = settled(FULL)
        self.assertEqual(sorted(other[1]), lives)
        self.assertEqual(sorted(other[2]), deads)
        settled(ALIKE)
        self.assertEqual(sorted(other[1]), lives)


class TwoTest(unittest.TestCase):
    def assert_two(self, table):
        """Not a sure table, and the row is a writing of both texts by a plain telling of all writings."""
        told = settled(table, 10000)
        self.assertEqual(told[0], "two")
        self.assertEqual([type(part) for part in told], [str, tuple, str, str])
        self.assertIs(type(told), tuple)
        row, text, other = told[1:]
        self.assertNotEqual(text, other)
        edges = edges_again(table)
        self.assertIn(row, rows_from(edges, text, "out"))
        self.assertIn(row, rows_from(edges, other, "out"))

    def test_one_cell_for_two_letters(self):
        table = made_table([A, ("b", (1,), "wbme")], NO_MARKS, ())
        self.assert_two(table)
        self.assertEqual(set("".join(settled(table)[2:])) - set("ab "), set())

    def test_two_cells_for_a_letter(self):
        self.assert_two(made_table([A, ("b", (1, 1), "wbme")], NO_MARKS, ()))

    def test_one_text_goes_on_longer(self):
        self.assert_two(made_table([A, ("aa", (1,), "w")], NO_MARKS, ()))
        self.assert_two(made_table([A, B, ("ab", (1,), "e")], NO_MARKS, ()))

    def test_a_form_in_the_middle_of_words(self):
        self.assert_two(made_table([A, B, ("bab", (3,), "m")], NO_MARKS, ()))

    def test_forms_that_overlap(self):
        # ac, by 1 and 2 3, is written like bd, by 1 2 and 3.
        table = made_table(
            [("a", (1,), "wbme"), ("b", (1, 2), "wbme"), ("c", (2, 3), "wbme"), ("d", (3,), "wbme")], NO_MARKS, ())
        self.assert_two(table)

    def chain(self, count):
        """Letters by 1, by 1 2, by 2 3 and so on: the cells of each go beyond those of the one ahead by one."""
        letters = "abcdefghijklmnopqrstuvwx"
        return [("a", (1,), "wbme")] + [
            (letters[number], (number, number + 1), "wbme") for number in range(1, count)]

    def test_a_row_of_many_cells(self):
        # By no row of fewer cells two walks come to an end together: the last form alone ends them.
        for count in (2, 9, 22):
            forms = self.chain(count) + [("x", (count,), "wbme")]
            table = made_table(forms, NO_MARKS, ())
            self.assert_two(table)
            self.assertGreaterEqual(len(settled(table)[1]), count)
            table = made_table(forms[:-1], NO_MARKS, ())
            word, lives, deads = settled(table)
            self.assertEqual(word, "sure")
            self.assertEqual({live[:2] for live in lives}, lives_again(table)[0])
            self.assertIn((IN, ("done", (count,), forms[-2][0])), deads)

    def test_a_mark_like_a_letter(self):
        self.assert_two(made_table([A], ((1,), (), (), ()), ()))
        self.assert_two(made_table([A, B], ((32,), (3,), (), ()), ()))
        self.assert_two(made_table([A], ((), (), (1,), (60,)), (1,)))
        self.assert_two(made_table([A, B], ((), (), (60,), (3,)), (3,)))

    def test_the_mark_for_words_all_great_like_that_for_a_letter(self):
        # Aa by the one mark and AA by the other are written alike.
        self.assert_two(made_table([A, ("aa", (5,), "wbme")], ((32,), (32,), (), ()), ()))

    def test_a_letter_is_written_in_two_ways(self):
        self.assertEqual(settled(made_table([A, ("a", (2,), "wbme")], NO_MARKS, ()))[0], "sure")

    def test_samples(self):
        for table in [GREAT, ALL_GREAT, FIGURES, ALIKE]:
            self.assert_two(table)

    def test_drawn_tables(self):
        twos = [table for table in DRAWN if told_again(table) is None]
        self.assertGreater(len(twos), 40)
        for table in twos:
            self.assert_two(table)

    def test_against_all_short_rows(self):
        found = 0
        for table in TABLES + some_tables(60, top=4, seed=8):
            if any(len(texts) > 1 for texts in texts_of_rows(table, 3).values()):
                found += 1
                self.assertEqual(settled(table, 10000)[0], "two")
        self.assertGreater(found, 20)

    def test_rows_are_short_where_short_ones_are(self):
        # Not promised, but a row of thousands of cells would help nobody.
        for table in DRAWN:
            told = settled(table, 10000)
            if told[0] == "two":
                self.assertLess(len(told[1]), 20)


class MostTest(unittest.TestCase):
    def assert_too_many(self, table, most):
        with self.assertRaises(TooMany) as caught:
            settled(table, most)
        self.assertIs(type(caught.exception), TooMany)
        self.assertEqual(caught.exception.most, most)

    def test_just_as_many_are_not_too_many(self):
        for table in TABLES + some_tables(20, top=3):
            count = len(twins_of(table, 10000))
            self.assertIn(settled(table, count)[0], ["sure", "two"])
            self.assert_too_many(table, count - 1)
            self.assert_too_many(table, 1)

    def test_ahead_of_all_else(self):
        # By the first cell already it is seen that this table isn't sure.
        table = made_table([A, ("b", (1,), "wbme")], NO_MARKS, ())
        self.assertEqual(settled(table, 5)[0], "two")
        self.assert_too_many(table, 4)
        table = made_table([(letter, (1, 1, 1, 1), "wbme") for letter in "abcdefghijklmnopqrstuvwx"], NO_MARKS, ())
        self.assert_too_many(table, 5 + 3 * 48 * 48 - 1)
        self.assertEqual(settled(table, 5 + 3 * 48 * 48)[0], "two")

    def test_left_out_it_is_2000(self):
        word, lives, deads = settled(LARGE)
        self.assertEqual(word, "sure")
        self.assertEqual(len(lives) + len(deads), 2000)
        with self.assertRaises(TooMany) as caught:
            settled(LARGER)
        self.assertEqual(caught.exception.most, 2000)

    def test_above_two_thousand_twins(self):
        word, lives, deads = settled(LARGER, 2001)
        self.assertEqual(word, "sure")
        self.assertEqual(len(lives) + len(deads), 2001)
        self.assert_too_many(LARGER, 2000)

    def test_nine_thousand_twins(self):
        forms = [(letter, (1, number + 1), "wbme") for number, letter in enumerate("abcdefghijklmnopqrstuvwx")]
        table = made_table(forms, ((40,), (41,), (42,), (43,)), tuple(range(1, 11)))
        word, lives, deads = settled(table, 10000)
        self.assertEqual(word, "sure")
        self.assertGreater(len(lives) + len(deads), 9000)
        self.assertEqual({live[:2] for live in lives} | set(deads), set(twins_of(table, 10000)))
        self.assertTrue(all(live[2:] == ("", "") for live in lives))

    def test_nothing_hangs_on_a_refusal_ahead(self):
        self.assert_too_many(FULL, 1)
        self.assertEqual(settled(FULL)[0], "sure")

    def test_a_refusal_stands_under_the_base(self):
        self.assertEqual(TooMany.__bases__, (DotError,))

    def test_arguments_bear_their_names(self):
        self.assertEqual(settled(table=ONE, most=5)[0], "sure")


if __name__ == "__main__":
    unittest.main()
