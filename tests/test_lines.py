"""Points 24 to 26: rows broken into lines, lines put together again, and the hinges of steps."""

import itertools
import random
import unittest

from dots.errors import DotError, NoLines
from dots.lines import broken, hinges_of, joined, raggedness
from dots.tables import signs_of
from dots.writing import written
from samples import ALL_GREAT, FIGURES, FULL, TABLES, some_tables

MARK = 63


def may_be_hinges(row):
    """All numbers that may stand among the hinges of a row."""
    return [k for k in range(1, len(row)) if row[k] != 0 and row[k - 1] != 0]


def all_lines(row, hinges, width, mark):
    """All lines of a row: each choice of its blank cells and hinges, where no line is too long."""
    places = [k for k, cell in enumerate(row) if cell == 0] + hinges
    found = []
    for count in range(len(places) + 1):
        for chosen in itertools.combinations(sorted(places), count):
            lines = [[]]
            for k, cell in enumerate(row):
                if k in chosen and k in hinges:
                    lines[-1].append(mark)
                    lines.append([])
                if k in chosen and cell == 0:
                    lines.append([])
                else:
                    lines[-1].append(cell)
            if max(len(line) for line in lines) <= width:
                found.append([tuple(line) for line in lines])
    return found


def reckoned(lines, width, mark):
    """The raggedness of lines, told over."""
    total = 0
    for line in lines[:-1]:
        total += (width - len(line)) * (width - len(line))
        if line != () and line[len(line) - 1] == mark:
            total += 1
    return total


def least_by_forward_walk(row, hinges, width):
    """The least raggedness of all lines of a row, reckoned from its begin to its end, or None."""
    least = {0: 0}
    for begin in range(len(row) + 1):
        if begin in least:
            for count in range(width + 1):
                end = begin + count
                if end < len(row) and row[end] == 0:
                    price = least[begin] + (width - count) ** 2
                    least[end + 1] = min(price, least.get(end + 1, price))
                if end in hinges and count + 1 <= width:
                    price = least[begin] + (width - count - 1) ** 2 + 1
                    least[end] = min(price, least.get(end, price))
    ends = [price for begin, price in least.items() if len(row) - begin <= width]
    return min(ends, default=None)


class BrokenTest(unittest.TestCase):
    def assert_lines(self, row, hinges, lines, width, mark):
        """That these are lines of the row, of the right kinds."""
        self.assertIs(type(lines), list)
        self.assertGreaterEqual(len(lines), 1)
        place = 0
        for number, line in enumerate(lines):
            self.assertIs(type(line), tuple)
            self.assertLessEqual(len(line), width)
            if number == len(lines) - 1:
                self.assertEqual(line, row[place:])
            elif mark in line:
                self.assertEqual(line, row[place:place + len(line) - 1] + (mark,))
                place += len(line) - 1
                self.assertIn(place, hinges)
            else:
                self.assertEqual(line, row[place:place + len(line)])
                place += len(line)
                self.assertEqual(row[place], 0)
                place += 1

    def assert_least(self, row, hinges, width, mark=MARK):
        """That the told lines are among all that there are, and none of those is less ragged."""
        found = all_lines(row, hinges, width, mark)
        if not found:
            with self.assertRaises(NoLines):
                broken(row, list(hinges), width, mark)
            return
        told = broken(row, list(hinges), width, mark)
        self.assertIn(told, found)
        self.assert_lines(row, hinges, told, width, mark)
        least = min(reckoned(lines, width, mark) for lines in found)
        self.assertEqual(reckoned(told, width, mark), least, (row, hinges, width))
        self.assertEqual(raggedness(told, width, mark), least)
        self.assertEqual(joined(told, mark), row)

    def test_a_row_that_fits_is_one_line(self):
        self.assertEqual(broken((1, 2, 3), [], 3, MARK), [(1, 2, 3)])
        self.assertEqual(broken((1, 0, 3), [], 3, MARK), [(1, 0, 3)])
        self.assertEqual(broken((1, 2, 3), [1, 2], 80, MARK), [(1, 2, 3)])

    def test_the_row_of_no_cells(self):
        for width in [1, 2, 80]:
            self.assertEqual(broken((), [], width, MARK), [()])

    def test_at_blank_cells(self):
        self.assertEqual(broken((1, 2, 0, 3), [], 3, MARK), [(1, 2), (3,)])
        self.assertEqual(broken((1, 0, 2, 0, 3, 3), [], 3, MARK), [(1, 0, 2), (3, 3)])
        self.assertEqual(broken((1, 0, 2, 2, 0, 3, 3, 3), [], 4, MARK), [(1, 0, 2, 2), (3, 3, 3)])

    def test_at_hinges(self):
        self.assertEqual(broken((1, 2, 3, 4), [2], 3, MARK), [(1, 2, MARK), (3, 4)])
        self.assertEqual(broken((1, 2, 3, 4), [1, 2], 3, 5), [(1, 2, 5), (3, 4)])
        self.assertEqual(broken((1, 2, 3), [1, 2], 2, 7), [(1, 7), (2, 3)])

    def test_a_break_at_a_hinge_costs_one_more(self):
        # Both leave no cell free.
        self.assertEqual(broken((2, 2, 2, 2, 0, 3, 3), [3], 4, 1), [(2, 2, 2, 2), (3, 3)])
        # The blank cell would leave three free, so 9.
        told = broken((1, 1, 0, 2, 2, 2, 2), [4], 5, MARK)
        self.assertEqual(told, [(1, 1, 0, 2, MARK), (2, 2, 2)])
        self.assertEqual(raggedness(told, 5, MARK), 1)

    def test_the_mark_counts_for_the_width(self):
        with self.assertRaises(NoLines):
            broken((1, 2, 3, 4), [3], 3, MARK)
        self.assertEqual(broken((1, 2, 3, 4, 5), [3], 4, MARK), [(1, 2, 3, MARK), (4, 5)])
        with self.assertRaises(NoLines):
            broken((1, 2), [1], 1, MARK)

    def test_the_last_line_counts_for_the_width(self):
        with self.assertRaises(NoLines):
            broken((1, 0, 2, 2, 2), [], 2, MARK)
        self.assertEqual(broken((1, 0, 2, 2, 2), [], 3, MARK), [(1,), (2, 2, 2)])

    def test_the_last_line_costs_nothing(self):
        self.assertEqual(broken((1, 1, 1, 0, 2), [], 4, MARK), [(1, 1, 1), (2,)])
        self.assertEqual(raggedness(broken((1, 1, 1, 1, 0, 2), [], 4, MARK), 4, MARK), 0)

    def test_squares_are_summed(self):
        # The fullest first line of 6 leaves 0 and 4 cells free, so 16; a shorter one 3 and 1, so 10.
        told = broken((1, 1, 1, 0, 2, 2, 0, 3, 3, 0, 4, 4, 4, 4, 4), [], 6, MARK)
        self.assertEqual(told, [(1, 1, 1), (2, 2, 0, 3, 3), (4, 4, 4, 4, 4)])
        self.assertEqual(raggedness(told, 6, MARK), 10)

    def test_blank_cells_at_the_begin_and_at_the_end(self):
        self.assertEqual(broken((0, 1), [], 1, MARK), [(), (1,)])
        self.assertEqual(broken((1, 0), [], 1, MARK), [(1,), ()])
        self.assertEqual(broken((0,), [], 1, MARK), [(0,)])
        self.assertEqual(broken((0, 1, 1, 0), [], 2, MARK), [(), (1, 1), ()])

    def test_blank_cells_side_by_side(self):
        self.assertEqual(broken((1, 0, 0, 2), [], 1, MARK), [(1,), (), (2,)])
        self.assertEqual(broken((1, 0, 0, 2), [], 2, MARK), [(1, 0), (2,)])
        self.assertEqual(broken((0, 0), [], 1, MARK), [(0,), ()])
        self.assertEqual(broken((1, 1, 0, 0, 0, 2, 2), [], 2, MARK), [(1, 1), (0,), (2, 2)])
        self.assertEqual(raggedness(broken((0,) * 1300, [], 1, MARK), 1, MARK), 0)

    def test_width_1(self):
        self.assertEqual(broken((1, 0, 2, 0, 3), [], 1, MARK), [(1,), (2,), (3,)])
        for row in [(1, 2), (1, 0, 2, 3), (1, 2, 0)]:
            with self.assertRaises(NoLines):
                broken(row, may_be_hinges(row), 1, MARK)

    def test_all_short_rows(self):
        for count in range(6):
            for row in itertools.product((0, 1), repeat=count):
                hinges = may_be_hinges(row)
                for width in range(1, count + 2):
                    self.assert_least(row, [], width)
                    self.assert_least(row, hinges, width)
                    self.assert_least(row, hinges[::2], width)

    def test_many_rows(self):
        chance = random.Random(3)
        for k in range(600):
            row = tuple(chance.choice((0, 1, 1, 2, 3)) for cell in range(chance.randint(0, 11)))
            hinges = [hinge for hinge in may_be_hinges(row) if chance.random() < 0.6]
            self.assert_least(row, hinges, chance.randint(1, 7), chance.randint(4, 63))

    def test_long_rows(self):
        chance = random.Random(4)
        for blanks in [0.0, 0.02, 0.2, 0.6]:
            row = tuple(0 if chance.random() < blanks else chance.randint(1, 62) for cell in range(1300))
            for share in [0.0, 0.1, 1.0]:
                hinges = [hinge for hinge in may_be_hinges(row) if chance.random() < share]
                for width in [1, 2, 3, 7, 40, 80]:
                    least = least_by_forward_walk(row, set(hinges), width)
                    if least is None:
                        with self.assertRaises(NoLines):
                            broken(row, hinges, width, MARK)
                    else:
                        told = broken(row, hinges, width, MARK)
                        self.assert_lines(row, hinges, told, width, MARK)
                        self.assertEqual(raggedness(told, width, MARK), least)
                        self.assertEqual(joined(told, MARK), row)

    def test_the_two_reckonings_of_these_tests_agree(self):
        for row in itertools.product((0, 1), repeat=6):
            for width in range(1, 6):
                found = all_lines(row, may_be_hinges(row), width, MARK)
                self.assertEqual(min([reckoned(lines, width, MARK) for lines in found], default=None),
                                 least_by_forward_walk(row, may_be_hinges(row), width))

    def test_refused(self):
        for row, hinges, width in [((1, 1), [], 1), ((1,) * 81, [], 80), ((1, 1, 1, 1, 0, 1), [1], 2),
                                   ((1,) * 1300, [], 7)]:
            with self.assertRaises(NoLines) as caught:
                broken(row, hinges, width, MARK)
            self.assertIs(type(caught.exception), NoLines)
        self.assertEqual(NoLines.__bases__, (DotError,))

    def test_what_is_handed_in_stays(self):
        hinges = [2, 3, 6]
        row = (1, 2, 3, 4, 0, 5, 6)
        told = broken(row, hinges, 4, MARK)
        self.assertEqual(hinges, [2, 3, 6])
        before = list(told)
        hinges.clear()
        self.assertEqual(told, before)
        refused = [1]
        with self.assertRaises(NoLines):
            broken((1, 1, 1), refused, 1, MARK)
        self.assertEqual(refused, [1])

    def test_the_list_told_is_the_askers_own(self):
        row = (1, 2, 3, 4, 0, 5, 6)
        told = broken(row, [2, 3, 6], 4, MARK)
        least = raggedness(told, 4, MARK)
        told.append((9,))
        told[0] = ()
        other = broken(row, [2, 3, 6], 4, MARK)
        self.assert_lines(row, [2, 3, 6], other, 4, MARK)
        self.assertEqual(raggedness(other, 4, MARK), least)
        one = broken((1,), [], 4, MARK)
        one.clear()
        self.assertEqual(broken((1,), [], 4, MARK), [(1,)])

    def test_arguments_bear_their_names(self):
        self.assertEqual(broken(row=(1, 0, 2), hinges=[], width=1, mark=9), [(1,), (2,)])


class RaggednessTest(unittest.TestCase):
    def test_the_last_line_is_not_counted(self):
        self.assertEqual(raggedness([(1,)], 5, 9), 0)
        self.assertEqual(raggedness([()], 5, 9), 0)
        self.assertEqual(raggedness([(9,)], 5, 9), 0)
        self.assertEqual(raggedness([(1, 2, 3, 4, 5), (1,)], 5, 9), 0)

    def test_squares(self):
        self.assertEqual(raggedness([(1, 2), (3,)], 5, 9), 9)
        self.assertEqual(raggedness([(1, 2), (), (3, 4, 5, 6), (3,)], 5, 9), 9 + 25 + 1)
        self.assertEqual(raggedness([(), (1,)], 80, 9), 6400)

    def test_one_more_for_the_mark(self):
        self.assertEqual(raggedness([(1, 9), (3,)], 5, 9), 10)
        self.assertEqual(raggedness([(1, 9), (3,)], 5, 8), 9)
        self.assertEqual(raggedness([(9, 1), (3,)], 5, 9), 9)
        self.assertEqual(raggedness([(9,), (9, 9), (9,)], 2, 9), 2 + 1)

    def test_many_lines(self):
        chance = random.Random(5)
        for k in range(200):
            width = chance.randint(1, 80)
            lines = [tuple(chance.choice((0, 1, 9)) for cell in range(chance.randint(0, width)))
                     for line in range(chance.randint(1, 6))]
            before = list(lines)
            told = raggedness(lines, width, 9)
            self.assertEqual(told, reckoned(lines, width, 9))
            self.assertIs(type(told), int)
            self.assertEqual(lines, before)

    def test_as_many_lines_as_may_be_handed_in(self):
        self.assertEqual(raggedness([()] * 4000, 80, 9), 3999 * 6400)

    def test_arguments_bear_their_names(self):
        self.assertEqual(raggedness(lines=[(1,), ()], width=2, mark=9), 1)


class JoinedTest(unittest.TestCase):
    def test_a_blank_cell_or_the_mark(self):
        self.assertEqual(joined([(1, 2), (3,)], 9), (1, 2, 0, 3))
        self.assertEqual(joined([(1, 2, 9), (3,)], 9), (1, 2, 3))
        self.assertEqual(joined([(1, 9), (2,), (3, 9), (4,)], 9), (1, 2, 0, 3, 4))

    def test_the_mark_at_the_last_line_stays(self):
        self.assertEqual(joined([(1, 2, 9)], 9), (1, 2, 9))
        self.assertEqual(joined([(1,), (2, 9)], 9), (1, 0, 2, 9))
        self.assertEqual(joined([(9,)], 9), (9,))

    def test_the_mark_goes_once_and_at_the_end_alone(self):
        self.assertEqual(joined([(9, 9), (1,)], 9), (9, 1))
        self.assertEqual(joined([(9, 1), (1,)], 9), (9, 1, 0, 1))
        self.assertEqual(joined([(9,), (9,), (9,)], 9), (9,))

    def test_another_mark(self):
        self.assertEqual(joined([(1, 9), (2,)], 63), (1, 9, 0, 2))

    def test_lines_of_no_cells(self):
        self.assertEqual(joined([()], 9), ())
        self.assertEqual(joined([(), ()], 9), (0,))
        self.assertEqual(joined([(), (), ()], 9), (0, 0))
        self.assertEqual(joined([(1,), (), (2,)], 9), (1, 0, 0, 2))
        self.assertEqual(joined([(9,), ()], 9), ())

    def test_blank_cells_stay(self):
        self.assertEqual(joined([(0,), (0, 1), (1, 0)], 9), (0, 0, 0, 1, 0, 1, 0))

    def test_kinds_and_what_is_handed_in(self):
        lines = [(1, 9), (), (2,)]
        told = joined(lines, 9)
        self.assertIs(type(told), tuple)
        self.assertEqual(told, (1, 0, 2))
        self.assertEqual(lines, [(1, 9), (), (2,)])

    def test_as_many_lines_as_may_be_handed_in(self):
        self.assertEqual(joined([(1,) * 79 + (9,)] * 4000, 9), (1,) * (79 * 4000) + (9,))
        self.assertEqual(joined([()] * 4000, 9), (0,) * 3999)

    def test_arguments_bear_their_names(self):
        self.assertEqual(joined(lines=[(1, 9), (2,)], mark=9), (1, 2))


class HingesTest(unittest.TestCase):
    def test_no_steps(self):
        self.assertEqual(hinges_of([]), [])

    def test_a_word_of_one_form(self):
        self.assertEqual(hinges_of([("out", "ab", (5, 6), "done")]), [])

    def test_a_word_of_several_forms(self):
        self.assertEqual(hinges_of([("out", "ba", (3, 7), "in"), ("in", "ab", (5,), "done")]), [2])
        self.assertEqual(hinges_of([
            ("out", "a", (1,), "in"), ("in", "B", (32, 3), "in"), ("in", "a", (1,), "in"), ("in", "b", (3,), "done"),
        ]), [1, 3, 4])

    def test_a_word_all_great(self):
        self.assertEqual(hinges_of([
            ("out", "A", (32, 6, 1), "all"), ("all", "B", (3,), "all"), ("all", "AB", (5, 5), "done"),
        ]), [3, 4])
        self.assertEqual(hinges_of([("out", "AB", (32, 6, 5), "done")]), [])

    def test_blanks_and_figures(self):
        self.assertEqual(hinges_of([
            ("out", "1", (60, 1), "num"), ("num", "", (48,), "let"), ("let", "a", (1,), "in"),
            ("in", "b", (3,), "done"), ("done", " ", (0,), "out"), ("out", "a", (1,), "in"), ("in", "a", (1,), "done"),
        ]), [4, 7])
        self.assertEqual(hinges_of([
            ("out", " ", (0,), "out"), ("out", "1", (60, 1), "num"), ("num", "2", (3,), "num"),
            ("num", " ", (0,), "out"),
        ]), [])

    def test_of_written_texts(self):
        self.assertEqual(hinges_of(written(ALL_GREAT, "BBB")[1]), [3, 4])
        self.assertEqual(hinges_of(written(FIGURES, "0a 1bbab")[1]), [11, 12])
        self.assertEqual(hinges_of(written(FIGURES, "0a 1ab")[1]), [])
        self.assertEqual(hinges_of(written(FULL, "ba b1a")[1]), [1])

    def texts(self):
        """Many tables, each with a text of its signs."""
        chance = random.Random(6)
        for table in TABLES + some_tables(60):
            for k in range(5):
                yield table, "".join(chance.choice(signs_of(table)) for sign in range(chance.randint(0, 30)))

    def test_a_hinge_is_where_letters_follow_letters(self):
        for table, text in self.texts():
            row, steps = written(table, text)
            before = list(steps)
            told = hinges_of(steps)
            self.assertEqual(steps, before)
            expected = []
            for k in range(len(steps) - 1):
                if steps[k][1][-1:].isalpha() and steps[k + 1][1][:1].isalpha():
                    expected.append(sum(len(step[2]) for step in steps[:k + 1]))
            self.assertEqual(told, expected)
            self.assertIs(type(told), list)
            self.assertLessEqual(set(told), set(may_be_hinges(row)))

    def test_written_texts_broken_and_put_together(self):
        for table, text in self.texts():
            row, steps = written(table, text)
            mark = max(set(range(1, 64)) - set(row))
            for width in [2, 3, 8, 40]:
                least = least_by_forward_walk(row, hinges_of(steps), width)
                if least is not None:
                    told = broken(row, hinges_of(steps), width, mark)
                    self.assertEqual(joined(told, mark), row)
                    self.assertEqual(reckoned(told, width, mark), least)

    def test_the_list_told_is_the_askers_own(self):
        steps = written(FULL, "ba ab ba")[1]
        told = hinges_of(steps)
        before = list(told)
        told.append(99)
        self.assertEqual(hinges_of(steps), before)
        again = hinges_of(steps)
        steps.clear()
        self.assertEqual(again, before)

    def test_arguments_bear_their_names(self):
        self.assertEqual(hinges_of(steps=[("out", "a", (1, 2), "in"), ("in", "a", (1, 2), "done")]), [2])


if __name__ == "__main__":
    unittest.main()
