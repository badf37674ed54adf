"""Promises 11 and 12: one cell turning at a time."""

import itertools
import unittest
from math import factorial

from flankturns.errors import BadCells, BadCount, BadLine, Swings, TooMany
from flankturns.singles import (can_come, come_count, comes_by_turns, end_count, end_with, ends, ends_by_turns,
                                fewest_turns, is_end, is_rest_an_end, most_turns, ways_in_all, ways_to)
from flankturns.lines import stretches
from tests.tools import (BAD_CELLS, BAD_LINES, GOOD_LINE, SWINGING, in_turn, levels_of, no_integer_within,
                         plain_course, plain_ready, sample_lines)

ALONE = (come_count, end_count, comes_by_turns, ends_by_turns, ends, fewest_turns, most_turns, ways_in_all,
         is_rest_an_end)


# Runs of 6, 6, 6, 5 and 5 ready cells with 5, 5, 5, 4 and 4 ends; and eleven runs of 2 with 2 ends each.
JUST_2000 = in_turn((34, 7, 14, 21, 27))
MORE = in_turn([34] + list(range(3, 33, 3)))


class TestSingles(unittest.TestCase):
    def test_all_that_can_come(self):
        for line in sample_lines():
            levels = levels_of(line)
            self.assertEqual(comes_by_turns(line), tuple(len(level) for level in levels), line)
            self.assertEqual(come_count(line), sum(len(level) for level in levels), line)
            ended = [[cells for cells in level if not plain_ready((cells,) + line[1:])] for level in levels]
            self.assertEqual(ends_by_turns(line), tuple(len(some) for some in ended), line)
            self.assertEqual(end_count(line), sum(len(some) for some in ended), line)
            self.assertEqual(ends(line), sorted(cells for some in ended for cells in some), line)
            turns = [many for many, some in enumerate(ended) if some]
            self.assertEqual([fewest_turns(line), most_turns(line)], [min(turns), max(turns)], line)
            ways = sum(level[cells] for level, some in zip(levels, ended) for cells in some)
            self.assertEqual(ways_in_all(line), ways, line)
            for many in range(len(levels) + 2):
                some = ended[many] if many < len(levels) else []
                self.assertEqual(end_with(line, many), min(some) if some else None, line)

    def test_each_of_some_colours(self):
        for line in sample_lines()[::7]:
            orders = {cells: number for level in levels_of(line) for cells, number in level.items()}
            palette = sorted(set(line[0] + (0, 1)))
            many = len(line[0])
            some = itertools.product(palette, repeat=many) if many < 8 else itertools.product((0, 1), repeat=many)
            for cells in some:
                self.assertIs(can_come(line, cells), cells in orders, (line, cells))
                ended = cells in orders and not plain_ready((cells,) + line[1:])
                self.assertIs(is_end(line, cells), ended, (line, cells))
                self.assertEqual(ways_to(line, cells), orders.get(cells, 0), (line, cells))

    def test_fewest_and_most_by_stretches(self):
        for line in [in_turn((many,)) for many in range(1, 41)] + [JUST_2000, MORE] + [
                in_turn((40, 0), True), in_turn((40, 5, 17), True)]:
            lengths = [len(stretch) for stretch in stretches(line)]
            self.assertEqual(fewest_turns(line), sum(length // 3 for length in lengths))
            self.assertEqual(most_turns(line), sum((length - 1) // 2 for length in lengths))
            self.assertEqual(len(comes_by_turns(line)), most_turns(line) + 1)
            self.assertEqual(len(ends_by_turns(line)), most_turns(line) + 1)

    def test_long_rows(self):
        counts, ended = [1, 2], [1, 1, 2]
        while len(counts) < 39:
            counts.append(counts[-1] + counts[-2])
        while len(ended) < 39:
            ended.append(ended[-2] + ended[-3])
        for many in range(2, 41):
            self.assertEqual(come_count(in_turn((many,))), counts[many - 2])
            self.assertEqual(end_count(in_turn((many,))), ended[many - 2])
        self.assertEqual(come_count(in_turn((40, 0), True)), counts[38] + counts[37])

    def test_long_rings_that_swing(self):
        lucas, perrin = [2, 1], [3, 0, 2]
        while len(lucas) < 41:
            lucas.append(lucas[-1] + lucas[-2])
        while len(perrin) < 41:
            perrin.append(perrin[-2] + perrin[-3])
        for many in range(4, 41, 2):
            ring = in_turn((many,), True)
            self.assertEqual(come_count(ring), lucas[many])
            self.assertEqual(end_count(ring), perrin[many])
            self.assertEqual(fewest_turns(ring), (many + 2) // 3)
            self.assertEqual(most_turns(ring), many // 2)
            self.assertEqual(ends_by_turns(ring)[-1], 2)
            self.assertEqual(comes_by_turns(ring)[:2], (1, many))
            if perrin[many] <= 2000:
                self.assertEqual(len(ends(ring)), perrin[many])
                self.assertEqual(len(set(ends(ring))), perrin[many])
                self.assertTrue(all(is_end(ring, cells) for cells in ends(ring)))
            else:
                self.assertRaises(TooMany, ends, ring)
        self.assertEqual(ends(SWINGING), [(0, 0, 0, 0), (1, 1, 1, 1)])

    def test_ways(self):
        ring = in_turn((40,), True)
        self.assertEqual(ways_to(ring, (0,) * 40), factorial(20))
        self.assertEqual(ways_to(ring, ring[0]), 1)
        self.assertEqual(ways_to(ring, (2,) * 40), 0)
        self.assertEqual(ways_in_all(((5,), (), False)), 1)
        self.assertEqual(ways_to(((5,), (), False), (5,)), 1)
        self.assertEqual(ways_to(((5,), (), False), (4,)), 0)

    def test_lines_without_a_turn(self):
        for line in (((5,), (), False), ((5, 6), (), False), ((0, 1, 0), (1,), False), ((0, 1, 2), (), True),
                     ((0,) * 40, (), True), ((0, 1) * 20, tuple(range(40)), True)):
            self.assertEqual([come_count(line), end_count(line), comes_by_turns(line), ends_by_turns(line)],
                             [1, 1, (1,), (1,)])
            self.assertEqual([ends(line), fewest_turns(line), most_turns(line), ways_in_all(line)],
                             [[line[0]], 0, 0, 1])
            self.assertEqual([end_with(line, 0), end_with(line, 1), end_with(line, 40)], [line[0], None, None])
            self.assertIs(can_come(line, line[0]), True)
            self.assertIs(is_end(line, line[0]), True)
            self.assertIs(is_rest_an_end(line), True)

    def test_colours_that_cannot_come(self):
        for cells in ((0, 2, 0, 1, 0), (1, 1, 0, 1, 0), (0, 1, 0, 1, 9), (0, 0, 1, 1, 0), (0, 0, 1, 0, 0)):
            self.assertIs(can_come(GOOD_LINE, cells), False)
            self.assertIs(is_end(GOOD_LINE, cells), False)
            self.assertEqual(ways_to(GOOD_LINE, cells), 0)
        self.assertIs(can_come(((0, 1, 0, 1), (1,), False), (0, 0, 0, 1)), False)
        self.assertIs(can_come(SWINGING, (1, 1, 0, 0)), False)
        self.assertIs(can_come(SWINGING, (1, 1, 0, 1)), True)

    def test_rest_as_an_end(self):
        for line in sample_lines():
            course = plain_course(line)
            if course is None:
                self.assertRaises(Swings, is_rest_an_end, line)
                continue
            self.assertIs(is_rest_an_end(line), course[-1][0] in ends(line), line)
        for many in range(1, 41):
            self.assertIs(is_rest_an_end(in_turn((many,))), many < 3 or many % 4 != 0)
        self.assertIs(is_rest_an_end(in_turn((40, 3), True)), True)

    def test_just_as_many_ends_as_can_be(self):
        self.assertEqual(end_count(JUST_2000), 2000)
        found = ends(JUST_2000)
        self.assertEqual(len(found), 2000)
        self.assertEqual(len(set(found)), 2000)
        self.assertEqual(found, sorted(found))
        self.assertTrue(all(is_end(JUST_2000, cells) for cells in found[::50]))
        fewest = fewest_turns(JUST_2000)
        self.assertEqual(ways_to(JUST_2000, end_with(JUST_2000, fewest)), factorial(fewest))
        self.assertIn(end_with(JUST_2000, most_turns(JUST_2000)), found)
        self.assertIsNone(end_with(JUST_2000, fewest - 1))
        self.assertIsNone(end_with(JUST_2000, most_turns(JUST_2000) + 1))

    def test_too_many(self):
        self.assertEqual(end_count(MORE), 2048)
        calls = [lambda: ends(MORE)] + [lambda many=many: end_with(MORE, many) for many in (0, 11, 40)]
        for call in calls:
            with self.assertRaises(TooMany) as caught:
                call()
            self.assertEqual(caught.exception.most, 2000)
        self.assertEqual(ways_in_all(MORE), 2048 * factorial(11))
        self.assertIs(is_end(MORE, MORE[0]), False)

    def test_lists_are_new(self):
        ends(GOOD_LINE).append(None)
        self.assertEqual(ends(GOOD_LINE), [(0, 0, 0, 0, 0), (0, 1, 1, 1, 0)])
        ends(SWINGING).clear()
        self.assertEqual(len(ends(SWINGING)), 2)

    def test_bad_lines(self):
        for value, index in BAD_LINES:
            for function, more in [(one, ()) for one in ALONE] + [
                    (can_come, ((0, 1, 0),)), (is_end, ((0, 1, 0),)), (ways_to, ((0, 1, 0),)), (end_with, (1,)),
                    (can_come, (None,)), (is_end, ([],)), (ways_to, (0,)), (end_with, (-1,))]:
                with self.assertRaises(BadLine) as caught:
                    function(value, *more)
                self.assertEqual(caught.exception.index, index, value)

    def test_bad_cells(self):
        for value in BAD_CELLS:
            for function in (can_come, is_end, ways_to):
                self.assertRaises(BadCells, function, GOOD_LINE, value)
        for value in ((0, 1, 0), (0, 1, 0, 10), (0, 1, 0, True), [0, 1, 0, 1], None):
            for function in (can_come, is_end, ways_to):
                self.assertRaises(BadCells, function, SWINGING, value)

    def test_bad_counts(self):
        for many in no_integer_within(0, 40):
            self.assertRaises(BadCount, end_with, GOOD_LINE, many)
            self.assertRaises(BadCount, end_with, MORE, many)

    def test_swings_comes_last(self):
        self.assertRaises(Swings, is_rest_an_end, SWINGING)
        self.assertRaises(BadLine, is_rest_an_end, ((0, 1, 0, 1), (4,), True))
