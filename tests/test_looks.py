"""Points 22 and 23: lists of twins and rows with two texts, looked over."""

import copy
import random
import unittest

from dots.looks import is_closed, shows_two
from dots.spots import FIRST
from dots.sure import settled
from dots.tables import made_table
from samples import (
    A, ALIKE, B, FULL, GREAT, LARGER, NO_MARKS, ONE, PLAIN, TABLES, are_ends, beyond, edges_again, some_tables,
    sure_tables, texts_of_rows, ways_again)

OUT = ("out", (), "")
IN = ("in", (), "")
DONE = ("done", (), "")
# ab is written by the cells of a and b: so at one twin a is told ahead, at one behind.
SHORT = made_table([A, B, ("ab", (1, 3), "w")], NO_MARKS, ())
INSIDE = ("done", (3,), "ab")
LIVES = [(OUT, OUT, "", ""), (IN, IN, "", ""), (DONE, DONE, "", ""), (INSIDE, INSIDE, "", ""), (IN, INSIDE, "a", ""),
         (INSIDE, IN, "", "a")]
DEADS = [(IN, DONE), (DONE, IN), (INSIDE, DONE), (DONE, INSIDE)]
STATES = ["out", "in", "done", "num", "let", "all"]


def closed_again(table, lives, deads):
    """Whether lists are closed, each clause of point 22 by itself."""
    twins = [live[:2] for live in lives] + deads
    told = {live[:2]: live[2:] for live in lives}
    if len(twins) != len(set(twins)) or told.get((FIRST, FIRST)) != ("", ""):
        return False
    if any(are_ends(live[:2]) and live[2:] != ("", "") for live in lives) or any(are_ends(dead) for dead in deads):
        return False
    edges = edges_again(table)
    for twin in twins:
        for cell, text, other_text, behind in ways_again(edges, twin):
            if behind not in twins or twin in deads and behind in told:
                return False
            if twin in told and behind in told:
                if told[behind] != beyond(told[twin][0] + text, told[twin][1] + other_text):
                    return False
    return True


class ClosedTest(unittest.TestCase):
    def assert_closed(self, table, lives, deads):
        self.assertIs(is_closed(table, lives, deads), True)

    def assert_open(self, table, lives, deads):
        self.assertIs(is_closed(table, lives, deads), False)

    def test_lists_told_by_hand(self):
        self.assert_closed(SHORT, LIVES, DEADS)
        self.assert_closed(ONE, [(OUT, OUT, "", ""), (IN, IN, "", ""), (DONE, DONE, "", "")], [(IN, DONE), (DONE, IN)])

    def test_in_any_order(self):
        self.assert_closed(SHORT, LIVES[::-1], DEADS[::-1])
        self.assert_closed(SHORT, sorted(LIVES), sorted(DEADS))

    def test_lists_that_are_settled(self):
        count = 0
        for table in TABLES + some_tables(40) + sure_tables(40):
            told = settled(table, 10000)
            if told[0] == "sure":
                count += 1
                self.assert_closed(table, told[1], told[2])
        self.assertGreater(count, 60)

    def test_above_two_thousand_twins(self):
        word, lives, deads = settled(LARGER, 10000)
        self.assert_closed(LARGER, lives, deads)
        self.assert_open(LARGER, lives, deads[:-1])
        self.assert_open(LARGER, lives[:-1], deads)

    def test_no_twins(self):
        self.assert_open(ONE, [], [])
        self.assert_open(ONE, [], DEADS)
        self.assert_open(SHORT, LIVES, [])
        self.assert_open(SHORT, [], DEADS)

    def test_a_twin_left_out(self):
        for live in LIVES:
            self.assert_open(SHORT, [other for other in LIVES if other != live], DEADS)
        for dead in DEADS:
            self.assert_open(SHORT, LIVES, [other for other in DEADS if other != dead])

    def test_a_twin_put_in_twice(self):
        for live in LIVES:
            self.assert_open(SHORT, LIVES + [live], DEADS)
            self.assert_open(SHORT, LIVES + [live[:2] + ("x", "")], DEADS)
            self.assert_open(SHORT, [live[:2] + ("x", "")] + LIVES, DEADS)
        for dead in DEADS:
            self.assert_open(SHORT, LIVES, DEADS + [dead])

    def test_a_twin_in_both_lists(self):
        for live in LIVES:
            self.assert_open(SHORT, LIVES, DEADS + [live[:2]])
        for dead in DEADS:
            self.assert_open(SHORT, LIVES + [dead + ("", "")], DEADS)

    def test_a_live_twin_among_the_dead(self):
        for live in LIVES:
            self.assert_open(SHORT, [other for other in LIVES if other != live], DEADS + [live[:2]])

    def test_a_dead_twin_among_the_live(self):
        # From IN and IN one comes to it with nothing told, from IN and INSIDE with a b in both.
        for one, other, ahead, behind in [(IN, DONE, "", ""), (DONE, IN, "", "")]:
            deads = [dead for dead in DEADS if dead != (one, other)]
            self.assert_closed(SHORT, LIVES + [(one, other, ahead, behind)], deads)
            self.assert_open(SHORT, LIVES + [(one, other, "a", "")], deads)
            self.assert_open(SHORT, LIVES + [(one, other, "", "a")], deads)
        deads = [(IN, DONE), (DONE, IN), (INSIDE, DONE)]
        self.assert_closed(SHORT, LIVES + [(DONE, INSIDE, "a", "")], deads)
        self.assert_open(SHORT, LIVES + [(DONE, INSIDE, "", "a")], deads)
        self.assert_open(SHORT, LIVES + [(DONE, INSIDE, "", "")], deads)

    def test_a_dead_twin_that_leads_to_a_live_one(self):
        # b is 3 9: behind 3 the walks stand within b, one of them to end a word by it and one to go on.
        table = made_table([A, ("b", (3, 9), "wbme")], NO_MARKS, ())
        lives = settled(table)[1]
        deads = settled(table)[2]
        twin = (IN, DONE)
        source = (("in", (9,), "b"), ("done", (9,), "b"))
        self.assertIn(twin, deads)
        self.assertIn(source, deads)
        others = [dead for dead in deads if dead not in (twin, source)]
        self.assert_open(table, lives + [twin + ("", "")], others + [source])
        self.assert_closed(table, lives + [source + ("", "")], others + [twin])
        self.assert_closed(table, lives + [twin + ("", ""), source + ("", "")], others)

    def test_other_texts_ahead_or_behind(self):
        for number, live in enumerate(LIVES):
            for ahead, behind in [("b", ""), ("", "b"), ("a", "a"), ("a", "b"), (live[2] + "a", live[3]),
                                  (live[2], live[3] + "a"), ("A", "")]:
                lives = LIVES[:number] + [live[:2] + (ahead, behind)] + LIVES[number + 1:]
                self.assert_open(SHORT, lives, DEADS)

    def test_texts_left_out(self):
        for number in (4, 5):
            self.assert_open(SHORT, LIVES[:number] + [LIVES[number][:2] + ("", "")] + LIVES[number + 1:], DEADS)

    def test_both_texts_turned_about(self):
        turned = [(one, other, behind, ahead) for one, other, ahead, behind in LIVES]
        self.assert_open(SHORT, turned, DEADS)
        self.assert_open(SHORT, LIVES[:5] + turned[5:], DEADS)
        turned = [(other, one, behind, ahead) for one, other, ahead, behind in LIVES]
        self.assert_closed(SHORT, turned, [(other, one) for one, other in DEADS])

    def test_the_first_twin(self):
        self.assert_open(SHORT, LIVES[1:], DEADS)
        self.assert_open(SHORT, LIVES[1:], DEADS + [(OUT, OUT)])
        # Nothing comes behind these two, so the first twin alone is missing.
        self.assert_open(ONE, [], [(IN, DONE), (DONE, IN)])
        self.assert_open(ONE, [(IN, DONE, "", ""), (DONE, IN, "", "")], [])

    def test_the_first_twin_with_something_told(self):
        for ahead, behind in [("a", ""), ("", "a"), ("a", "a")]:
            self.assert_open(SHORT, [(OUT, OUT, ahead, behind)] + LIVES[1:], DEADS)

    def test_two_ends_with_something_told(self):
        # No way leads to num where there are no figures; from it one comes by a blank to out, where nothing is told:
        # so a in both texts is wrong at the two ends alone.
        for one in ("out", "done", "num"):
            for other in ("out", "done", "num"):
                if "num" in (one, other) and one != other:
                    twins = [((one, (), ""), (other, (), "")), ((other, (), ""), (one, (), ""))]
                    self.assert_closed(SHORT, LIVES + [twins[0] + ("", "")], DEADS)
                    self.assert_open(SHORT, LIVES + [twins[0] + ("a", "")], DEADS)
                    self.assert_open(SHORT, LIVES + [twins[0] + ("", "a")], DEADS)
                    self.assert_open(SHORT, LIVES + [twins[0] + ("a", "a")], DEADS)
                    self.assert_open(SHORT, LIVES, DEADS + twins[:1])
                    self.assert_open(SHORT, LIVES, DEADS + twins[1:])

    def test_one_end_alone(self):
        # Nothing comes behind it, since let has no edges where there are no figures.
        twin = (OUT, ("let", (), ""))
        self.assert_closed(SHORT, LIVES, DEADS + [twin])
        self.assert_closed(SHORT, LIVES + [twin + ("x", "")], DEADS)
        self.assert_closed(SHORT, LIVES + [twin + ("x", "y")], DEADS)

    def test_twins_of_none_with_nothing_behind(self):
        strangers = [(("in", (5,), "x"), ("in", (6,), "y")), (("out", (5,), "\n"), DONE), (("all", (), ""), IN),
                     (("let", (), ""), ("all", (), ""))]
        for twin in strangers:
            self.assert_closed(SHORT, LIVES, DEADS + [twin])
            for told in [("", ""), ("a", ""), ("", "~"), ("a", "b"), ("q", "q")]:
                self.assert_closed(SHORT, LIVES + [twin + told], DEADS)

    def test_twins_of_none_with_what_comes_behind(self):
        one = ("in", (5,), "x")
        other = ("out", (5, 6), "y")
        behind = (IN, ("out", (6,), "y"))
        self.assert_open(SHORT, LIVES, DEADS + [(one, other)])
        self.assert_closed(SHORT, LIVES, DEADS + [(one, other), behind])
        self.assert_open(SHORT, LIVES + [(one, other, "", "")], DEADS)
        self.assert_closed(SHORT, LIVES + [(one, other, "", "")], DEADS + [behind])
        self.assert_closed(SHORT, LIVES + [(one, other, "", ""), behind + ("x", "")], DEADS)
        self.assert_open(SHORT, LIVES + [(one, other, "", ""), behind + ("", "x")], DEADS)
        self.assert_open(SHORT, LIVES + [(one, other, "", ""), behind + ("", "")], DEADS)
        self.assert_open(SHORT, LIVES + [behind + ("x", "")], DEADS + [(one, other)])
        self.assert_closed(SHORT, LIVES + [behind + ("any", "thing")], DEADS)

    def test_what_was_told_goes_on(self):
        one = ("in", (5,), "x")
        other = ("out", (5, 6), "y")
        behind = (IN, ("out", (6,), "y"))
        for told, come in [(("a", ""), ("ax", "")), (("", "x"), ("", "")), (("", "xy"), ("", "y")),
                           (("", "a"), ("x", "a")), (("a", "b"), ("ax", "b")), (("a", "ab"), ("x", "b")),
                           (("ab", "ab"), ("x", ""))]:
            self.assert_closed(SHORT, LIVES + [(one, other) + told, behind + come], DEADS)
            self.assert_open(SHORT, LIVES + [(one, other) + told, behind + (come[0] + "x", come[1])], DEADS)
            self.assert_open(SHORT, LIVES + [(one, other) + told, behind + (come[0], come[1] + "x")], DEADS)

    def test_twins_of_none_that_come_to_two_ends(self):
        twin = (("done", (7,), "ab"), ("num", (7,), "b"))
        ends = (DONE, ("num", (), ""), "", "")
        self.assert_closed(SHORT, LIVES + [twin + ("", "a"), ends], DEADS)
        self.assert_open(SHORT, LIVES + [twin + ("", ""), ends], DEADS)
        self.assert_open(SHORT, LIVES + [twin + ("", "a")], DEADS)
        self.assert_open(SHORT, LIVES + [ends], DEADS + [twin])
        self.assert_open(SHORT, LIVES + [twin + ("", "a")], DEADS + [ends[:2]])

    def test_lists_of_another_table(self):
        self.assert_open(ONE, LIVES, DEADS[:0])
        self.assert_open(PLAIN, LIVES, DEADS)
        self.assert_open(SHORT, settled(ONE)[1], settled(ONE)[2])
        # All of ONE's twins are among these, and none leads out of them; what is told is the same.
        self.assert_closed(made_table([A, B], NO_MARKS, ()), settled(ONE)[1], settled(ONE)[2])

    def test_a_table_that_is_not_sure(self):
        table = made_table([A, ("b", (1,), "wbme")], NO_MARKS, ())
        self.assert_open(table, settled(ONE)[1], settled(ONE)[2])
        twins = [(one, other) for one in (IN, DONE) for other in (IN, DONE)]
        for told in [("", ""), ("a", "b"), ("b", "a")]:
            self.assert_open(table, [(OUT, OUT, "", "")] + [twin + told for twin in twins], [])
        self.assert_open(table, [(OUT, OUT, "", "")], twins)

    def test_long_texts(self):
        ahead = "x" * 5000
        behind = (IN, ("out", (6,), ""))
        twin = (("in", (5,), "x" * 200), ("out", (5, 6), ""))
        self.assert_closed(SHORT, LIVES + [twin + (ahead, ""), behind + (ahead + "x" * 200, "")], DEADS)
        self.assert_open(SHORT, LIVES + [twin + (ahead, ""), behind + (ahead + "x" * 199, "")], DEADS)

    def test_what_is_handed_in_stays(self):
        for lives, deads in [(LIVES, DEADS), (LIVES[1:], DEADS), (LIVES, DEADS + DEADS)]:
            own_lives = copy.deepcopy(lives)
            own_deads = copy.deepcopy(deads)
            is_closed(SHORT, own_lives, own_deads)
            self.assertEqual(own_lives, lives)
            self.assertEqual(own_deads, deads)

    def test_nothing_hangs_on_what_was_asked_before(self):
        lives = list(LIVES)
        self.assert_closed(SHORT, lives, DEADS)
        live = lives.pop()
        self.assert_open(SHORT, lives, DEADS)
        lives.append(live)
        self.assert_closed(SHORT, lives, DEADS)

    def test_arguments_bear_their_names(self):
        self.assertTrue(is_closed(table=SHORT, lives=LIVES, deads=DEADS))


def some_spot(chance, table):
    """Any spot as point 17 lets them, often one of the table's."""
    if chance.random() < 0.4:
        return (chance.choice(STATES), (), "")
    edge = chance.choice([edge for edge in edges_again(table) if edge[2] != (0,)])
    rest = edge[2][chance.randint(0, len(edge[2]) - 1):]
    return (edge[3], rest, chance.choice([edge[1], "a"]))


def some_change(chance, table, lives, deads):
    """Lists with one thing changed."""
    lives = list(lives)
    deads = list(deads)
    number = chance.randrange(len(lives))
    one, other, ahead, behind = lives[number]
    change = chance.randrange(8)
    if change == 0:
        lives.pop(number)
    elif change == 1 and deads:
        deads.pop(chance.randrange(len(deads)))
    elif change == 2:
        lives[number] = (one, other, behind, ahead)
    elif change == 3:
        lives[number] = (one, other) + chance.choice([("a", ""), ("", "b"), ("", ""), ("ab", ""), ("a", "b")])
    elif change == 4:
        deads.append(lives.pop(number)[:2])
    elif change == 5 and deads:
        lives.append(deads.pop(chance.randrange(len(deads))) + chance.choice([("", ""), ("a", ""), ("", "a")]))
    elif change == 6:
        lives.append((some_spot(chance, table), some_spot(chance, table)) + chance.choice([("", ""), ("a", "")]))
    else:
        deads.append((some_spot(chance, table), some_spot(chance, table)))
    return lives, deads


class ManyListsTest(unittest.TestCase):
    def test_lists_with_a_few_things_changed(self):
        chance = random.Random(4)
        seen = {True: 0, False: 0}
        tables = [ONE, SHORT, PLAIN] + sure_tables(12, seed=5)
        tables = [table for table in tables if len(settled(table)[1]) + len(settled(table)[2]) < 80]
        for k in range(900):
            table = chance.choice(tables)
            word, lives, deads = settled(table)
            for change in range(chance.randint(1, 2)):
                lives, deads = some_change(chance, table, lives, deads)
            told = is_closed(table, lives, deads)
            self.assertIs(told, closed_again(table, lives, deads), (table, lives, deads))
            seen[told] += 1
        self.assertGreater(min(seen.values()), 100)


class ShowsTwoTest(unittest.TestCase):
    def assert_shown(self, *args):
        self.assertIs(shows_two(*args), True)

    def assert_not_shown(self, *args):
        self.assertIs(shows_two(*args), False)

    def test_two_unlike_texts(self):
        table = made_table([A, ("b", (1,), "wbme")], NO_MARKS, ())
        self.assert_shown(table, (1,), "a", "b")
        self.assert_shown(table, (1,), "b", "a")
        self.assert_shown(table, (1, 0, 1, 1), "a ba", "b ab")

    def test_the_same_text_twice(self):
        table = made_table([A, ("b", (1,), "wbme")], NO_MARKS, ())
        self.assert_not_shown(table, (1,), "a", "a")
        self.assert_not_shown(table, (), "", "")

    def test_a_writing_of_one_alone(self):
        self.assert_not_shown(ONE, (1,), "a", "aa")
        self.assert_not_shown(ONE, (1,), "aa", "a")
        self.assert_not_shown(ONE, (1,), "a", "")
        self.assert_not_shown(ONE, (), "", " ")

    def test_a_writing_of_none(self):
        self.assert_not_shown(ONE, (2,), "a", "aa")
        self.assert_not_shown(ALIKE, (9, 9), "a", "b")

    def test_a_text_that_is_none_of_the_tables(self):
        self.assert_not_shown(ONE, (1,), "a", "b")
        self.assert_not_shown(ONE, (1,), "b", "a")
        self.assert_not_shown(ONE, (1,), "b", "c")
        self.assert_not_shown(ONE, (1,), "a", "A")
        self.assert_not_shown(ONE, (1,), "a", "a\n")
        self.assert_not_shown(ONE, (1,), "~" * 200, "a")

    def test_what_is_settled(self):
        count = 0
        for table in TABLES + some_tables(60, top=4, seed=6):
            told = settled(table, 10000)
            if told[0] == "two":
                count += 1
                self.assert_shown(table, told[1], told[2], told[3])
                self.assert_shown(table, told[1], told[3], told[2])
                self.assert_not_shown(table, told[1] + (63,), told[2], told[3])
                self.assert_not_shown(table, told[1], told[2] + " ", told[3])
                self.assert_not_shown(table, told[1], told[2], told[3] + " ")
        self.assertGreater(count, 20)

    def test_all_short_rows(self):
        for table in [GREAT, ALIKE, FULL]:
            rows = texts_of_rows(table, 3)
            texts = sorted(set().union(*rows.values()))[:40]
            for row in sorted(rows)[:60]:
                for text in texts[::3]:
                    for other in texts[::4]:
                        shown = text != other and text in rows[row] and other in rows[row]
                        self.assertIs(shows_two(table, row, text, other), shown)

    def test_no_row_by_a_sure_table(self):
        for table in [PLAIN, FULL]:
            for row, texts in texts_of_rows(table, 4).items():
                self.assertEqual(len(texts), 1)

    def test_arguments_bear_their_names(self):
        self.assertTrue(shows_two(table=ALIKE, row=(1,), text="a", other="b"))


if __name__ == "__main__":
    unittest.main()
