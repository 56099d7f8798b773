"""Point 28: desks, line by line."""

import random
import unittest

from dots.cells import read_row, shown_row
from dots.desk import Desk
from dots.errors import (
    DotError, NoEntry, NoForm, NoLetter, NoLine, NoLines, NoMark, NoReading, NoSign, NoTable, TooMany, Twice, Two)
from dots.lines import broken, hinges_of, joined, raggedness
from dots.looks import shows_two
from dots.tables import made_table, signs_of
from dots.tabletexts import read_table, shown_table
from dots.twins import twins_of
from dots.writing import is_written, written
from samples import ALIKE, FULL, GREAT, LARGE, LARGER, ONE, PLAIN, some_tables, some_text, sure_tables

PLAIN_LINES = ["form a wbme 1", "form b wbme 12", "form ab w 13"]
ALL_LINES = ["form a wbme 1", "form b wbme 12", "form ab w 13", "great 6", "all 6 6", "number 3456", "letter 56",
             "figures 245 1"]
# All that needs a table.
NEEDING = ["write a", "write ", "read 1", "read ", "count a", "count ", "put ab w 14", "strike ab 13", "lines 10 6 a",
           "lines 10 6 ", "show"]
# Lines that are none, whatever the table.
NONE = [
    "", " ", "\n", "ok", "table ", " table", "table\n", "Table", "table 1", "tables", "show ", " show", "shows",
    "show 1", "write", "read", "count", "put", "strike", "lines", "Write a", " write a", "writea", "write\na", "form",
    "form ", "form a", "form a wbme", "form a wbme ", "form a wbme 0", "form a wbme 1 ", "form  a wbme 1",
    "form a  wbme 1", "form a wbme  1", "form a wbme 21", "form a wbme 11", "form a wbme 7", "form a wbme 1 2 3 4 5",
    "form a ebmw 1", "form a x 1", "form A wbme 1", "form abcdefg w 1", "form a wbme 1\n", " form a wbme 1",
    "form a wbme 01", "great", "great ", "great 0", "great 1 2 3", "great 1  2", "great a", "all", "all ",
    "all 1 2 3", "all 0", "number", "number ", "number 1 2 3", "number 21", "letter", "letter ", "letter 1 2 3",
    "letter x", "figures", "figures ", "figures 0", "figures 1 2 3 4 5 6 12 13 14 15 16", "figures 1,2", "mark 1",
    "read 21", "read x", "read  ", "read 1 ", "read  1", "read 1  1", "read 7", "read 1\n", "read 00", "put ",
    "put a", "put a w", "put a w ", "put  w 1", "put a  1", "put  a w 1", "put a w  1", "put a w 1 ", "put a w 21",
    "put a w x", "put a w 1 7", "put a w 64", "strike ", "strike a", "strike a ", "strike  1", "strike a  1",
    "strike a 1 ", "strike a x", "strike  a 1", "strike a 21", "lines ", "lines 10", "lines 10 ", "lines 10 6",
    "lines 10  a", "lines  6 a", "lines 0 6 a", "lines 81 6 a", "lines 00 6 a", "lines 010 6 a", "lines 1.5 6 a",
    "lines -1 6 a", "lines +1 6 a", "lines x 6 a", "lines 10 0 a", "lines 10 7 a", "lines 10 65 a", "lines 10 x a",
    "lines 6 10 a", "lines 1000 6 a", "lines " + "9" * 5000 + " 6 a", "lines  10 6 a", "x" * 8000,
]


def desk_of(lines):
    """A desk with the table of these lines."""
    desk = Desk()
    for line in lines:
        desk.say(line)
    desk.say("table")
    return desk


class DeskCase(unittest.TestCase):
    def refusal_of(self, kind, desk, line):
        with self.assertRaises(DotError) as caught:
            desk.say(line)
        self.assertIs(type(caught.exception), kind, line)
        return caught.exception

    def assert_says(self, desk, line, told):
        answer = desk.say(line)
        self.assertEqual(answer, told)
        self.assertIs(type(answer), str)


class NoLineTest(DeskCase):
    def test_lines_that_are_none(self):
        for desk in [Desk(), desk_of(PLAIN_LINES)]:
            for line in NONE:
                refusal = self.refusal_of(NoLine, desk, line)
                self.assertEqual([type(word) for word in refusal.args], [str])

    def test_they_change_nothing(self):
        desk = desk_of(ALL_LINES)
        desk.say("form c wbme 14")
        for line in NONE:
            self.refusal_of(NoLine, desk, line)
        self.assert_says(desk, "show", " / ".join(ALL_LINES))
        self.assert_says(desk, "table", "sure 5")
        self.assert_says(desk, "show", "form c wbme 14")

    def test_lines_that_need_a_table(self):
        desk = Desk()
        for line in NEEDING:
            self.refusal_of(NoLine, desk, line)
        for line in PLAIN_LINES:
            desk.say(line)
        # Lines are kept, but there is still no table.
        for line in NEEDING:
            self.refusal_of(NoLine, desk, line)
        self.assert_says(desk, "table", "sure 5")
        for line in NEEDING:
            self.assertIs(type(desk.say(line)), str)

    def test_no_table_behind_a_refused_one_and_an_unsure_one(self):
        desk = Desk()
        self.refusal_of(NoForm, desk, "table")
        self.refusal_of(NoLine, desk, "show")
        desk.say("form a wbme 1")
        desk.say("form b wbme 1")
        self.assertEqual(desk.say("table")[:6], "two / ")
        self.refusal_of(NoLine, desk, "show")
        self.refusal_of(NoLine, desk, "write a")

    def test_ahead_of_all_else(self):
        desk = desk_of(PLAIN_LINES)
        # z is no sign of the table, and no form has these cells.
        self.refusal_of(NoLine, desk, "lines 81 6 z")
        self.refusal_of(NoLine, desk, "lines 10 1 z")
        self.refusal_of(NoLine, desk, "put z w x")
        self.refusal_of(NoLine, desk, "strike z x")
        self.refusal_of(NoLine, Desk(), "write \n")


class TableTest(DeskCase):
    def test_lines_are_kept(self):
        desk = Desk()
        for line in ALL_LINES:
            self.assert_says(desk, line, "ok")
        count = len(twins_of(read_table(ALL_LINES), 2000))
        self.assert_says(desk, "table", "sure " + str(count))
        self.assert_says(desk, "show", " / ".join(ALL_LINES))

    def test_each_line_by_itself(self):
        for line in ALL_LINES + ["form abcdef e 123456 1 2 3", "figures 1", "great 1 2", "letter 1 2", "number 1 2",
                                 "all 1", "figures 1 2 3 4 5 6 12 13 14 15"]:
            self.assert_says(Desk(), line, "ok")

    def test_sure(self):
        for table in [ONE, PLAIN, FULL, LARGE] + sure_tables(10):
            desk = Desk()
            lines = shown_table(table)
            for line in lines:
                self.assert_says(desk, line, "ok")
            self.assert_says(desk, "table", "sure " + str(len(twins_of(table, 2000))))
            self.assert_says(desk, "show", " / ".join(lines))
        self.assertEqual(len(twins_of(LARGE, 2000)), 2000)

    def test_two(self):
        for table in [GREAT, ALIKE] + some_tables(30, top=2, seed=6):
            desk = desk_of(["form z wbme 5"])
            for line in shown_table(table):
                desk.say(line)
            if len(twins_of(table, 10000)) > 2000:
                continue
            told = desk.say("table")
            if told[:5] == "sure ":
                continue
            # No table has a sign / or one that writes it.
            word, row, text, other = told.split(" / ")
            self.assertEqual(word, "two")
            self.assertTrue(shows_two(table, read_row(row), text, other))
            self.assert_says(desk, "show", "form z wbme 5")
            self.refusal_of(NoForm, desk, "table")

    def test_lines_go_behind_a_table(self):
        desk = desk_of(PLAIN_LINES)
        self.assertEqual(self.refusal_of(NoForm, desk, "table").number, 0)
        self.assert_says(desk, "show", " / ".join(PLAIN_LINES))
        desk.say("form c wbme 14")
        self.assert_says(desk, "table", "sure 5")
        self.assert_says(desk, "show", "form c wbme 14")

    def test_lines_go_behind_a_refused_table(self):
        desk = desk_of(PLAIN_LINES)
        desk.say("form c wbm 14")
        self.assertEqual(self.refusal_of(NoLetter, desk, "table").letter, "c")
        self.assert_says(desk, "show", " / ".join(PLAIN_LINES))
        desk.say("form d wbme 14")
        self.assert_says(desk, "table", "sure 5")
        self.assert_says(desk, "show", "form d wbme 14")

    def test_lines_stay_behind_other_refusals(self):
        desk = desk_of(PLAIN_LINES)
        desk.say("form d wbme 14")
        for kind, line in [(NoSign, "write x"), (NoSign, "count x"), (NoReading, "read 2"), (NoLine, "read x"),
                           (NoLines, "lines 1 6 ba"), (NoSign, "lines 1 6 x"), (NoLine, "form d wbme 0"),
                           (NoEntry, "strike d 14"), (NoForm, "put d x 14"), (NoLine, "tables")]:
            self.refusal_of(kind, desk, line)
            self.assert_says(desk, "show", " / ".join(PLAIN_LINES))
        self.assert_says(desk, "table", "sure 5")
        self.assert_says(desk, "show", "form d wbme 14")

    def test_lines_go_behind_an_unsure_table(self):
        desk = desk_of(PLAIN_LINES)
        desk.say("form c wbme 14")
        desk.say("form d wbme 14")
        self.assertEqual(desk.say("table")[:6], "two / ")
        self.assert_says(desk, "show", " / ".join(PLAIN_LINES))
        desk.say("form d wbme 15")
        self.assert_says(desk, "table", "sure 5")
        self.assert_says(desk, "show", "form d wbme 15")

    def refused(self, kind, lines):
        desk = desk_of(PLAIN_LINES)
        for line in lines:
            self.assert_says(desk, line, "ok")
        refusal = self.refusal_of(kind, desk, "table")
        self.assert_says(desk, "show", " / ".join(PLAIN_LINES))
        self.assertEqual(self.refusal_of(NoForm, desk, "table").number, 0)
        self.assert_says(desk, "show", " / ".join(PLAIN_LINES))
        return refusal

    def test_refused_as_10_and_8_tell(self):
        self.assertEqual(self.refused(NoTable, ["great 6", "form a wbme 1"]).place, 1)
        self.assertEqual(self.refused(NoTable, ["form a wbme 1", "great 6", "great 6"]).place, 2)
        self.assertEqual(self.refused(NoTable, ["form a wbme 1", "figures 1", "letter 6"]).place, 2)
        self.assertEqual(self.refused(NoForm, []).number, 0)
        self.assertEqual(self.refused(NoForm, ["great 6"]).number, 0)
        self.assertEqual(self.refused(NoForm, ["form a wbme 1"] * 25).number, 24)
        self.assertEqual(self.refused(Twice, ["form a wbme 1", "form b wbme 12", "form a w 1"]).number, 2)
        self.assertEqual(self.refused(NoMark, ["form a wbme 1", "all 6"]).number, 1)
        self.assertEqual(self.refused(NoMark, ["form a wbme 1", "figures 6"]).number, 2)
        self.assertEqual(self.refused(NoMark, ["form a wbme 1", "number 6", "figures 6"]).number, 3)
        self.assertEqual(self.refused(NoLetter, ["form a wbme 1", "form ac w 13"]).letter, "c")

    def test_the_place_is_counted_by_the_lines_kept(self):
        desk = desk_of(PLAIN_LINES)
        desk.say("form a wbme 1")
        self.refusal_of(NoLine, desk, "form a wbme 0")
        desk.say("write a")
        desk.say("great 6")
        desk.say("form b wbme 12")
        self.assertEqual(self.refusal_of(NoTable, desk, "table").place, 2)

    def test_too_many(self):
        refusal = self.refused(TooMany, shown_table(LARGER))
        self.assertEqual(refusal.most, 2000)

    def test_too_many_goes_ahead_of_two(self):
        letters = "abcdefghijklmnopqrstuvwx"
        lines = ["form " + letter + " wbme 1 1 1 1" for letter in letters]
        self.assertEqual(self.refused(TooMany, lines).most, 2000)

    def test_a_table_stays_while_lines_are_kept(self):
        desk = desk_of(PLAIN_LINES)
        desk.say("form a wbme 123456")
        self.assert_says(desk, "write a", "1")
        desk.say("table")
        self.assert_says(desk, "write a", "123456")

    def test_the_same_line_is_kept_twice(self):
        desk = Desk()
        desk.say("form a wbme 1")
        desk.say("form a wbme 1")
        self.assertEqual(self.refusal_of(Twice, desk, "table").number, 1)


class TextTest(DeskCase):
    def test_write(self):
        desk = desk_of(ALL_LINES)
        for text, row in [("a", "1"), ("ab", "13"), ("a b", "1 0 12"), ("bab", "12 1 12"), ("Ab", "6 13"),
                          ("AB", "6 6 13"), ("10", "3456 1 245"), ("0a", "3456 245 56 1"), (" ", "0"), ("  ", "0 0"),
                          (" a", "0 1"), ("a ", "1 0")]:
            self.assert_says(desk, "write " + text, row)

    def test_nothing_behind_the_blank(self):
        desk = desk_of(ALL_LINES)
        self.assert_says(desk, "write ", "")
        self.assert_says(desk, "read ", "")
        self.assert_says(desk, "count ", "0")
        self.assert_says(desk, "lines 1 36 ", "")
        for word in ["write", "read", "count", "lines 1 36"]:
            self.refusal_of(NoLine, desk, word)

    def test_no_sign(self):
        desk = desk_of(PLAIN_LINES)
        for word in ["write ", "count ", "lines 10 6 "]:
            self.assertEqual(self.refusal_of(NoSign, desk, word + "abc").place, 2)
            self.assertEqual(self.refusal_of(NoSign, desk, word + " A").place, 1)
            self.assertEqual(self.refusal_of(NoSign, desk, word + "a\nb").place, 1)
            self.assertEqual(self.refusal_of(NoSign, desk, word + "write a").place, 0)
        self.assert_says(desk, "show", " / ".join(PLAIN_LINES))

    def test_read(self):
        desk = desk_of(ALL_LINES)
        for row, text in [("1", "a"), ("13", "ab"), ("1 12", "ab"), ("1 0 12", "a b"), ("0", " "), ("0 0", "  "),
                          ("6 6 1 12", "AB"), ("6 1 6 12", "AB"), ("3456 1 245", "10"), ("3456 245 56 1", "0a")]:
            self.assert_says(desk, "read " + row, text)

    def test_no_reading(self):
        desk = desk_of(PLAIN_LINES)
        self.assertEqual(self.refusal_of(NoReading, desk, "read 2").place, 0)
        self.assertEqual(self.refusal_of(NoReading, desk, "read 1 0 123456 1").place, 2)
        self.assertEqual(self.refusal_of(NoReading, desk, "read 13 13").place, 1)

    def test_count(self):
        desk = desk_of(ALL_LINES)
        for text, count in [("a", "1"), ("ab", "1"), ("bab", "3"), ("AB", "3"), ("a" * 200, "200"), ("a 10", "5")]:
            self.assert_says(desk, "count " + text, count)

    def test_long_lines(self):
        desk = desk_of(ALL_LINES)
        row = " ".join(["1"] * 1300)
        self.assert_says(desk, "read " + row, "a" * 1300)
        self.assert_says(desk, "write " + "b" * 200, " ".join(["12"] * 200))
        self.assertEqual(self.refusal_of(NoSign, desk, "write " + "~" * 7994).place, 0)

    def test_against_the_table(self):
        chance = random.Random(5)
        for table in [PLAIN, FULL] + sure_tables(10, seed=4):
            desk = desk_of(shown_table(table))
            for k in range(20):
                text = some_text(chance, signs_of(table), 12)
                row = desk.say("write " + text)
                self.assertTrue(is_written(table, text, read_row(row)))
                self.assertEqual(len(read_row(row)), len(written(table, text)[0]))
                self.assert_says(desk, "count " + text, str(len(written(table, text)[0])))
                self.assert_says(desk, "read " + row, text)


class FormTest(DeskCase):
    def assert_refused(self, kind, line, lines=PLAIN_LINES):
        desk = desk_of(lines)
        desk.say("form c wbme 14")
        refusal = self.refusal_of(kind, desk, line)
        self.assert_says(desk, "show", " / ".join(lines))
        # The line kept ahead is still there.
        desk.say("table")
        self.assert_says(desk, "show", "form c wbme 14")
        return refusal

    def test_put(self):
        desk = desk_of(ALL_LINES)
        self.assert_says(desk, "put ba e 14", "ok")
        self.assert_says(desk, "put c wbme 25", "ok")
        self.assert_says(desk, "put bbbb b 15 24", "ok")
        self.assert_says(desk, "show", " / ".join(
            PLAIN_LINES + ["form ba e 14", "form c wbme 25", "form bbbb b 15 24"] + ALL_LINES[3:]))
        self.assert_says(desk, "write bba", "12 14")
        self.assert_says(desk, "write bbbba", "15 24 1")
        self.assert_says(desk, "read 25", "c")

    def test_put_what_is_no_form(self):
        for words in ["ab x 13", "AB w 13", "abababa w 13", "ab ww 13", "ab w 0", "ab w 1 0", "ab w 1 2 3 4 5",
                      "ab\n w 13", "/ / 1", "12 w 1", "ab wbmew 13", "form w 1 1 1 1 1", "~ ~ 1"]:
            self.assertEqual(self.assert_refused(NoForm, "put " + words).number, 3)

    def test_put_refused_as_27_tells(self):
        self.assertEqual(self.assert_refused(Twice, "put ab e 13").number, 3)
        self.assertEqual(self.assert_refused(NoLetter, "put az w 14").letter, "z")
        refusal = self.assert_refused(Two, "put b w 1")
        table = read_table(PLAIN_LINES + ["form b w 1"])
        self.assertTrue(shows_two(table, refusal.row, refusal.text, refusal.other))
        refusal = self.assert_refused(TooMany, "put ab w 1 1 3456", shown_table(LARGE))
        self.assertEqual(refusal.most, 2000)

    def test_put_behind_24_forms(self):
        lines = ["form " + letter + " wbme " + shown_row((number + 1,)) for number, letter in
                 enumerate("abcdefghijklmnopqrstuvwx")]
        self.assertEqual(self.assert_refused(NoForm, "put y wbme 123456", lines).number, 24)

    def test_strike(self):
        desk = desk_of(ALL_LINES)
        self.assert_says(desk, "strike ab 13", "ok")
        self.assert_says(desk, "show", " / ".join(ALL_LINES[:2] + ALL_LINES[3:]))
        self.assert_says(desk, "write ab", "1 12")
        self.refusal_of(NoReading, desk, "read 13")
        self.assert_says(desk, "put ab w 13", "ok")
        self.assert_says(desk, "show", " / ".join(ALL_LINES))

    def test_strike_of_several_cells(self):
        desk = desk_of(PLAIN_LINES)
        desk.say("put ba w 12 1")
        self.refusal_of(NoEntry, desk, "strike ba 12")
        self.refusal_of(NoEntry, desk, "strike ba 12 1 1")
        self.assert_says(desk, "strike ba 12 1", "ok")
        self.assert_says(desk, "show", " / ".join(PLAIN_LINES))

    def test_strike_refused_as_27_tells(self):
        for words in ["ab 1", "ba 13", "ab 13 13", "a 0", "ab 0", "/ 1", "w 1", "AB 13", "ab 1 2 3 4 5 6", "\n 1"]:
            self.assert_refused(NoEntry, "strike " + words)
        self.assertEqual(self.assert_refused(NoLetter, "strike a 1").letter, "a")
        self.assertEqual(self.assert_refused(NoForm, "strike a 1", ["form a wbme 1"]).number, 0)

    def test_show(self):
        self.assert_says(desk_of(["form a wbme 1"]), "show", "form a wbme 1")
        self.assert_says(desk_of(ALL_LINES), "show", " / ".join(ALL_LINES))


class LinesTest(DeskCase):
    def test_lines(self):
        desk = desk_of(ALL_LINES)
        for line, told in [
                ("lines 80 36 bab 1", "12 1 12 0 3456 1"), ("lines 4 36 bab 1", "12 1 12 / 3456 1"),
                ("lines 2 36 bab 1", "12 36 / 1 12 / 3456 1"), ("lines 1 36 a b", "1 / 12"), ("lines 1 36 a", "1"),
                ("lines 80 36  a ", "0 1 0")]:
            self.assert_says(desk, line, told)

    def test_lines_of_no_cells(self):
        desk = desk_of(ALL_LINES)
        self.assert_says(desk, "lines 1 36 a  a", "1 /  / 1")
        self.assert_says(desk, "lines 1 36  a", " / 1")
        self.assert_says(desk, "lines 1 36 a ", "1 / ")
        self.assert_says(desk, "lines 1 36 ", "")
        # Of three blank cells the one amid them stays, where it fills a line.
        self.assert_says(desk, "lines 1 36 a   a", "1 / 0 / 1")

    def test_no_lines(self):
        desk = desk_of(ALL_LINES)
        for line in ["lines 1 36 ba", "lines 1 36 A", "lines 1 36 10", "lines 2 36 100"]:
            self.refusal_of(NoLines, desk, line)
        self.assert_says(desk, "lines 2 36 ba", "12 1")

    def test_widths(self):
        desk = desk_of(ALL_LINES)
        for width in range(1, 81):
            self.assert_says(desk, "lines " + str(width) + " 36 a", "1")
        for width in ["0", "81", "82", "100", "01", "08", "080", "00", "", "a", "-1", "8 0", "1_0", "80.", "8\n", "\n8",
                      "800", "8" * 4400]:
            self.refusal_of(NoLine, desk, "lines " + width + " 36 a")

    def test_cells(self):
        desk = desk_of(ALL_LINES)
        table = read_table(ALL_LINES)
        own = {cell for form in table[0] for cell in form[1]} | {cell for mark in table[1] for cell in mark}
        own |= set(table[2])
        for cell in range(64):
            line = "lines 80 " + shown_row((cell,)) + " ab"
            if cell == 0 or cell in own:
                self.refusal_of(NoLine, desk, line)
            else:
                self.assert_says(desk, line, "13")

    def test_each_part_of_the_table_counts(self):
        for lines in [["form a wbme 14"], ["form a wbme 1 14"], ["form a wbme 1", "great 14"],
                      ["form a wbme 1", "great 6 14"], ["form a wbme 1", "great 6", "all 14"]]:
            self.refusal_of(NoLine, desk_of(lines), "lines 10 14 a")
        lines = ["form a wbme 1", "number 14", "letter 15", "figures 16 1"]
        for cell in ["1", "14", "15", "16"]:
            self.refusal_of(NoLine, desk_of(lines), "lines 10 " + cell + " a")
        self.assert_says(desk_of(lines), "lines 10 13 a", "1")

    def test_a_cell_that_was_struck_or_put_in(self):
        desk = desk_of(PLAIN_LINES)
        self.refusal_of(NoLine, desk, "lines 10 13 a")
        self.assert_says(desk, "lines 10 14 a", "1")
        desk.say("strike ab 13")
        desk.say("put ab w 14")
        self.assert_says(desk, "lines 10 13 a", "1")
        self.refusal_of(NoLine, desk, "lines 10 14 a")

    def test_against_broken(self):
        chance = random.Random(8)
        told = 0
        for table in [PLAIN, FULL] + sure_tables(6, seed=6):
            desk = desk_of(shown_table(table))
            for k in range(20):
                text = some_text(chance, signs_of(table) + "   ", 30)
                width = chance.randint(4, 20)
                line = "lines " + str(width) + " 123456 " + text
                row, steps = written(table, text)
                try:
                    least = raggedness(broken(row, hinges_of(steps), width, 63), width, 63)
                except NoLines:
                    self.refusal_of(NoLines, desk, line)
                    continue
                lines = [read_row(part) for part in desk.say(line).split(" / ")]
                self.assertEqual(raggedness(lines, width, 63), least)
                self.assertLessEqual(max(len(line) for line in lines), width)
                self.assertTrue(is_written(table, text, joined(lines, 63)))
                told += len(lines) > 1
        self.assertGreater(told, 60)


class OwnTest(DeskCase):
    def test_desks_beside_each_other(self):
        one = Desk()
        other = Desk()
        one.say("form a wbme 1")
        other.say("form b wbme 12")
        self.assert_says(one, "table", "sure 5")
        self.refusal_of(NoLine, other, "show")
        self.assert_says(other, "table", "sure 5")
        self.assert_says(one, "show", "form a wbme 1")
        self.assert_says(other, "show", "form b wbme 12")
        one.say("put b wbme 12")
        one.say("form c wbme 14")
        self.assert_says(other, "show", "form b wbme 12")
        self.refusal_of(NoForm, other, "table")
        self.assert_says(one, "table", "sure 5")

    def test_arguments_bear_their_names(self):
        self.assertEqual(Desk().say(line="form a wbme 1"), "ok")

    def test_two_tables_one_behind_the_other(self):
        desk = desk_of(ALL_LINES)
        for line in PLAIN_LINES:
            desk.say(line)
        self.assert_says(desk, "table", "sure 5")
        self.assert_says(desk, "show", " / ".join(PLAIN_LINES))
        self.assertEqual(self.refusal_of(NoSign, desk, "write A").place, 0)

    def test_a_table_made_is_that_of_the_lines(self):
        table = made_table([("a", (1,), "wbme")], ((), (), (), ()), ())
        self.assertEqual(shown_table(table), desk_of(["form a wbme 1"]).say("show").split(" / "))


if __name__ == "__main__":
    unittest.main()
