"""Point 4, the whole promise, and the interface, over all modules."""

import importlib
import inspect
import random
import unittest

from dots.cells import read_row
from dots.desk import Desk
from dots.edges import may_end
from dots.errors import DotError, NoLines, TooMany
from dots.keeper import Keeper
from dots.lines import broken, hinges_of, joined
from dots.looks import is_closed, shows_two
from dots.reading import read
from dots.sure import settled
from dots.tables import signs_of
from dots.tabletexts import shown_table
from dots.twins import twins_of
from dots.writing import is_written, prices, written
from samples import (
    ALIKE, FULL, PLAIN, TABLES, edges_again, rows_from, some_form, some_tables, some_text, some_writing, sure_tables)

DRAWN = some_tables(30, seed=11) + some_tables(30, top=6, seed=12) + some_tables(30, top=2, seed=13)
SURE = [table for table in DRAWN + TABLES if settled(table, 10000)[0] == "sure"] + sure_tables(30, seed=14)
# Where the module is, each function with its arguments; a default stands behind "=".
INTERFACE = {
    "cells": ["dots_of(cell)", "cell_of(dots)", "shown_cell(cell)", "shown_row(row)", "read_cell(text)",
              "read_row(text)"],
    "tables": ["is_form(form)", "made_table(forms, marks, figures)", "signs_of(table)", "is_text(table, text)"],
    "tabletexts": ["shown_table(table)", "read_table(lines)"],
    "edges": ["edges_of(table)", "may_end(state)"],
    "writing": ["prices(table, text)", "written(table, text)", "is_written(table, text, row)"],
    "reading": ["read(table, row)"],
    "spots": ["is_end(spot)", "steps_by(table, spot, cell)"],
    "twins": ["told_on(ahead, behind, text, other)", "twins_of(table, most)"],
    "sure": ["settled(table, most=2000)"],
    "looks": ["is_closed(table, lives, deads)", "shows_two(table, row, text, other)"],
    "lines": ["broken(row, hinges, width, mark)", "raggedness(lines, width, mark)", "joined(lines, mark)",
              "hinges_of(steps)"],
    "keeper": ["Keeper(table, most=2000)"],
    "desk": ["Desk()"],
}
METHODS = {Keeper: ["table(self)", "put(self, form)", "strike(self, letters, cells)", "write(self, text)",
                    "read(self, row)"],
           Desk: ["say(self, line)"]}
REFUSALS = {
    "NoForm": ["number"], "Twice": ["number"], "NoMark": ["number"], "NoLetter": ["letter"], "NoTable": ["place"],
    "NoSign": ["place"], "NoReading": ["place"], "TooMany": ["most"], "Two": ["row", "text", "other"], "NoLines": [],
    "NoEntry": [], "NoLine": []}


class InterfaceTest(unittest.TestCase):
    def assert_call(self, owner, call):
        name = call.partition("(")[0]
        self.assertEqual(name + str(inspect.signature(getattr(owner, name))), call)

    def test_functions_and_classes(self):
        for name, calls in INTERFACE.items():
            for call in calls:
                self.assert_call(importlib.import_module("dots." + name), call)

    def test_methods(self):
        for owner, calls in METHODS.items():
            for call in calls:
                self.assert_call(owner, call)

    def test_refusals(self):
        errors = importlib.import_module("dots.errors")
        for name, fields in REFUSALS.items():
            refusal = getattr(errors, name)
            self.assertEqual(refusal.__bases__, (DotError,))
            if fields:
                self.assertEqual(list(inspect.signature(refusal).parameters), fields)
                made = refusal(*range(len(fields)))
                self.assertEqual([getattr(made, field) for field in fields], list(range(len(fields))))
        self.assertEqual(DotError.__bases__, (ValueError,))


class SettledTest(unittest.TestCase):
    def test_each_table_is_settled(self):
        seen = set()
        for table in DRAWN + TABLES:
            told = settled(table, 10000)
            seen.add(told[0])
            if told[0] == "sure":
                self.assertIs(is_closed(table, told[1], told[2]), True)
                self.assertEqual(len(told[1]) + len(told[2]), len(twins_of(table, 10000)))
            else:
                self.assertIs(shows_two(table, told[1], told[2], told[3]), True)
        self.assertEqual(seen, {"sure", "two"})

    def test_a_table_that_is_not_sure_has_no_closed_lists(self):
        for table in DRAWN[30:]:
            if settled(table, 10000)[0] == "two":
                twins = twins_of(table, 10000)
                ends = [twin for twin in twins if all(spot[1] == () and may_end(spot[0]) for spot in twin)]
                others = [twin for twin in twins if twin not in ends]
                self.assertFalse(is_closed(table, [twin + ("", "") for twin in twins], []))
                self.assertFalse(is_closed(table, [twin + ("", "") for twin in ends], others))


class WritingTest(unittest.TestCase):
    def test_any_writing_is_read_as_its_text_by_a_sure_table(self):
        chance = random.Random(1)
        longer = 0
        self.assertGreater(len(SURE), 60)
        for table in SURE:
            for k in range(8):
                text = some_text(chance, signs_of(table), 12)
                row = some_writing(chance, table, text)
                self.assertTrue(is_written(table, text, row))
                self.assertEqual(read(table, row), text)
                self.assertEqual(read(table, written(table, text)[0]), text)
                longer += len(row) > len(written(table, text)[0])
        self.assertGreater(longer, 30)

    def test_each_text_has_a_writing_by_every_table(self):
        chance = random.Random(2)
        for table in DRAWN + TABLES:
            for k in range(6):
                text = some_text(chance, signs_of(table), 12)
                row, steps = written(table, text)
                self.assertTrue(is_written(table, text, row))
                self.assertEqual(len(row), prices(table, text)[0][0])
                # What is read is a text of the row, perhaps another one.
                self.assertTrue(is_written(table, read(table, row), row))

    def test_no_writing_has_fewer_cells(self):
        chance = random.Random(3)
        for table in DRAWN + TABLES:
            edges = edges_again(table)
            for k in range(4):
                text = some_text(chance, signs_of(table), 5)
                self.assertEqual(len(written(table, text)[0]), min(len(row) for row in rows_from(edges, text, "out")))
            for k in range(4):
                text = some_text(chance, signs_of(table), 20)
                self.assertLessEqual(len(written(table, text)[0]), len(some_writing(chance, table, text)))

    def test_texts_of_200_signs(self):
        chance = random.Random(4)
        for table in [PLAIN, FULL, ALIKE] + sure_tables(3, seed=15):
            text = "".join(chance.choice(signs_of(table)) for k in range(200))
            row = some_writing(chance, table, text)
            self.assertTrue(is_written(table, text, row))
            self.assertLessEqual(len(written(table, text)[0]), len(row))
            if settled(table, 10000)[0] == "sure":
                self.assertEqual(read(table, row), text)


class LinesTest(unittest.TestCase):
    def test_a_broken_row_is_put_together_again(self):
        chance = random.Random(5)
        told = 0
        for table in SURE:
            for k in range(4):
                text = some_text(chance, signs_of(table) + "  ", 30)
                row, steps = written(table, text)
                marks = [cell for cell in range(1, 64) if cell not in row]
                mark = chance.choice(marks)
                try:
                    lines = broken(row, hinges_of(steps), chance.randint(3, 12), mark)
                except NoLines:
                    continue
                told += len(lines) > 1
                self.assertEqual(joined(lines, mark), row)
                self.assertEqual(read(table, joined(lines, mark)), text)
        self.assertGreater(told, 100)

    def test_the_lines_of_a_desk(self):
        chance = random.Random(6)
        told = 0
        for table in sure_tables(20, seed=16):
            desk = Desk()
            for line in shown_table(table):
                desk.say(line)
            self.assertEqual(desk.say("table"), "sure " + str(len(twins_of(table, 2000))))
            for k in range(6):
                text = some_text(chance, signs_of(table) + "  ", 30)
                try:
                    answer = desk.say("lines " + str(chance.randint(3, 12)) + " 123456 " + text)
                except NoLines:
                    continue
                lines = [read_row(part) for part in answer.split(" / ")]
                told += len(lines) > 1
                self.assertEqual(read(table, joined(lines, 63)), text)
        self.assertGreater(told, 50)


class KeeperTest(unittest.TestCase):
    def test_a_sure_table_at_all_times(self):
        chance = random.Random(7)
        done = {"put": 0, "struck": 0, "refused": 0}
        for table in sure_tables(12, seed=17):
            keeper = Keeper(table, 200 + len(twins_of(table, 10000)))
            for k in range(15):
                before = keeper.table()
                try:
                    if chance.random() < 0.6:
                        keeper.put(some_form(chance, "abc", 12))
                        done["put"] += 1
                    else:
                        keeper.strike(*chance.choice(before[0])[:2])
                        done["struck"] += 1
                except DotError:
                    self.assertEqual(keeper.table(), before)
                    done["refused"] += 1
                self.assertEqual(settled(keeper.table(), 10000)[0], "sure")
                text = some_text(chance, signs_of(keeper.table()), 10)
                self.assertEqual(keeper.read(keeper.write(text)), text)
                self.assertEqual(keeper.read(some_writing(chance, keeper.table(), text)), text)
        self.assertGreater(min(done.values()), 15)


class OwnTest(unittest.TestCase):
    def test_nothing_hangs_on_what_was_asked_before(self):
        def ask(table):
            word, lives, deads = settled(table, 10000)
            return (word, sorted(lives), sorted(deads), is_closed(table, lives, deads),
                    shows_two(table, (1,), "a", "b"), Keeper(table, 10000).write("a"))
        first = [ask(table) for table in [PLAIN, FULL]]
        for table in DRAWN[:5] + [ALIKE]:
            settled(table, 10000)
        with self.assertRaises(TooMany):
            settled(FULL, 3)
        self.assertEqual([ask(table) for table in [FULL, PLAIN]], first[::-1])

    def test_what_is_told_may_be_handed_in_again(self):
        for table in SURE[:20]:
            word, lives, deads = settled(table, 10000)
            before = (list(lives), list(deads))
            self.assertTrue(is_closed(table, lives, deads))
            self.assertEqual((lives, deads), before)


if __name__ == "__main__":
    unittest.main()
