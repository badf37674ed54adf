"""Promise 23: any set of ready cells turning at once."""

import itertools
import unittest

from flankturns.errors import BadCells, BadLine, TooMany
from flankturns.freely import free_count, free_ends, free_time, is_free
from flankturns.singles import ends
from flankturns.steps import rest
from tests.tools import (ANYTHING, BAD_CELLS, BAD_LINES, GOOD_LINE, SWINGING, in_turn, is_still, plain_ready,
                         plain_swings, plain_turned, sample_lines)


def plain_times(line):
    """For all colours that can come the least number of times, each set of cells taken by itself."""
    times = {line[0]: 0}
    level = [line[0]]
    while level:
        reached = []
        for cells in level:
            one = (cells,) + line[1:]
            ready = plain_ready(one)
            for number in range(1, len(ready) + 1):
                for some in itertools.combinations(ready, number):
                    behind = tuple(plain_turned(one, cell)[0][cell] if cell in some else colour
                                   for cell, colour in enumerate(cells))
                    if behind not in times:
                        times[behind] = times[cells] + 1
                        reached.append(behind)
        level = reached
    return times


def short_lines():
    """Lines of up to 10 cells."""
    return [line for line in sample_lines()[::6] if len(line[0]) < 9] + [
        in_turn((10,)), in_turn((10,), True), in_turn((10, 0), True), in_turn((10, 4)), in_turn((9, 3, 6)),
        ((0, 1, 0, 2, 0, 2, 3, 2, 3), (), False), ((0, 1, 0, 2, 0, 2, 3, 2, 3, 0), (), True)]


class TestFreely(unittest.TestCase):
    def test_all_sets(self):
        for line in short_lines():
            times = plain_times(line)
            self.assertEqual(free_count(line), len(times), line)
            ended = sorted(cells for cells in times if is_still(line, cells))
            self.assertEqual(free_ends(line), ended, line)
            for cells in list(times)[::max(1, len(times) // 12)]:
                self.assertEqual(free_time(line, cells), times[cells], (line, cells))
                self.assertIs(is_free(line, cells), True)
            if len(line[0]) < 6:
                for cells in itertools.product(range(3), repeat=len(line[0])):
                    self.assertEqual(free_time(line, cells), times.get(cells), (line, cells))
                    self.assertIs(is_free(line, cells), cells in times)

    def test_other_ends_are_among_them(self):
        for line in short_lines():
            found = free_ends(line)
            self.assertLessEqual(set(ends(line)), set(found))
            if not plain_swings(line):
                self.assertIn(rest(line)[0], found)

    def test_lines_without_a_turn(self):
        for line in (((5,), (), False), ((5, 6), (), False), ((0, 1, 0), (1,), False), ((0, 1, 2), (), True),
                     ((0, 1) * 5, tuple(range(10)), True)):
            self.assertEqual([free_count(line), free_ends(line)], [1, [line[0]]])
            self.assertEqual([is_free(line, line[0]), free_time(line, line[0])], [True, 0])
            self.assertEqual([is_free(line, (9,) * len(line[0])), free_time(line, (9,) * len(line[0]))], [False, None])

    def test_ten_cells(self):
        ring = in_turn((10,), True)
        self.assertEqual(free_time(ring, ring[0][::-1]), 1)
        self.assertEqual(free_time(ring, (0,) * 10), 1)
        self.assertIs(is_free(ring, (2,) * 10), False)
        self.assertEqual(free_ends(ring)[0], (0,) * 10)

    def test_eleven_cells(self):
        for line in (in_turn((11,)), in_turn((12,), True), ((0,) * 11, (), False), in_turn((40,), True)):
            for function, more in ((free_count, ()), (free_ends, ()), (is_free, (line[0],)), (free_time, (line[0],))):
                with self.assertRaises(TooMany) as caught:
                    function(line, *more)
                self.assertEqual(caught.exception.most, 10)
            for value in ANYTHING + BAD_CELLS:
                self.assertRaises(BadCells, is_free, line, value)
                self.assertRaises(BadCells, free_time, line, value)

    def test_lists_are_new(self):
        free_ends(GOOD_LINE).clear()
        self.assertNotEqual(free_ends(GOOD_LINE), [])

    def test_bad_lines(self):
        for value, index in BAD_LINES:
            for function, more in ((free_count, ()), (free_ends, ()), (is_free, ((0,),)), (free_time, ((0,),)),
                                   (is_free, (None,)), (free_time, ([],))):
                with self.assertRaises(BadLine) as caught:
                    function(value, *more)
                self.assertEqual(caught.exception.index, index, value)

    def test_bad_cells(self):
        for function in (is_free, free_time):
            for value in BAD_CELLS:
                self.assertRaises(BadCells, function, GOOD_LINE, value)
            for value in ANYTHING:
                self.assertRaises(BadCells, function, SWINGING, value)
