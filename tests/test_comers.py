"""Promise 34: colours that can come one at a time, in order."""

import itertools
import random
import unittest

from flankturns.comers import come_at, come_between, come_number, first_come, last_come
from flankturns.errors import BadCells, BadIndex, BadLine
from flankturns.singles import can_come, come_count
from tests.tools import (BAD_CELLS, BAD_LINES, GOOD_LINE, SWINGING, in_turn, levels_of, no_integer_within, random_line,
                         sample_lines)

LONG = (in_turn((40,)), in_turn((40,), True), in_turn((39,)), in_turn((40, 17), True), in_turn((40, 3, 20)),
        ((1, 0) * 20, (), True), ((0, 1, 0, 2) * 10, (), True), ((3, 1) * 20, (0,), True), ((5,) * 40, (), False))


class TestComers(unittest.TestCase):
    def assert_line(self, line, more):
        """Against all colours that can come, and more colours with their places among these."""
        come = sorted(cells for level in levels_of(line) for cells in level)
        self.assertEqual([first_come(line), last_come(line)], [come[0], come[-1]], line)
        for number, cells in enumerate(come):
            self.assertEqual(come_number(line, cells), number, line)
            self.assertEqual(come_at(line, number), cells, line)
        for index in (-1, len(come), len(come) + 1):
            self.assertRaises(BadIndex, come_at, line, index)
        for cells in more:
            self.assertEqual(come_number(line, cells), come.index(cells) if cells in come else None, (line, cells))
        for low, high in itertools.product(more[:8] + come[:3], more[-8:] + come[-3:]):
            between = len([cells for cells in come if low <= cells <= high])
            self.assertEqual(come_between(line, low, high), between, (line, low, high))

    def test_all_turns(self):
        luck = random.Random(340)
        for line in sample_lines()[::6]:
            many = len(line[0])
            more = [tuple(luck.randrange(3) for _ in range(many)) for _ in range(5)]
            more += [(0,) * many, (9,) * many, line[0]]
            self.assert_line(line, more)

    def test_all_colours_of_small_lines(self):
        for line in (((0, 1, 0), (), False), ((1, 0, 1, 2), (), False), ((0, 1, 0, 1), (), True), ((5,), (), False),
                     ((1, 0, 1, 0), (2,), True), ((2, 1, 2), (), True)):
            self.assert_line(line, list(itertools.product(range(3), repeat=len(line[0]))))

    def test_long_lines(self):
        luck = random.Random(341)
        for line in LONG + tuple(random_line(luck, 40, 2) for _ in range(6)):
            number = come_count(line)
            first, last = first_come(line), last_come(line)
            self.assertEqual([come_at(line, 0), come_at(line, number - 1)], [first, last])
            self.assertEqual(come_between(line, first, last), number)
            self.assertEqual(come_between(line, (0,) * len(first), (9,) * len(first)), number)
            ahead = None
            for index in sorted({0, number - 1} | {luck.randrange(number) for _ in range(4)}):
                cells = come_at(line, index)
                self.assertTrue(can_come(line, cells))
                self.assertTrue(first <= cells <= last)
                self.assertEqual(come_number(line, cells), index)
                self.assertEqual(come_between(line, first, cells), index + 1)
                self.assertEqual(come_between(line, cells, last), number - index)
                if ahead is not None:
                    self.assertLess(ahead[1], cells)
                    self.assertEqual(come_between(line, ahead[1], cells), index - ahead[0] + 1)
                    self.assertEqual(come_between(line, cells, ahead[1]), 0)
                ahead = index, cells
            for index in (-1, number, number + 1, 10 ** 30):
                self.assertRaises(BadIndex, come_at, line, index)

    def test_low_and_high(self):
        zeros, nines = (0,) * 5, (9,) * 5
        self.assertEqual(come_between(GOOD_LINE, zeros, nines), 5)
        self.assertEqual(come_between(GOOD_LINE, nines, zeros), 0)
        self.assertEqual(come_between(GOOD_LINE, zeros, zeros), 1)
        self.assertEqual(come_between(GOOD_LINE, nines, nines), 0)
        self.assertEqual(come_between(GOOD_LINE, (0, 1, 0, 1, 0), zeros), 0)
        self.assertEqual(come_between(GOOD_LINE, (0, 0, 0, 0, 1), (0, 1, 1, 1, 0)), 4)
        self.assertEqual(come_between(SWINGING, (0, 1, 0, 1), (0, 1, 0, 1)), 1)

    def test_colours_that_cannot_come(self):
        for cells in ((0, 0, 1, 1, 0), (9,) * 5, (1, 1, 0, 1, 0)):
            self.assertIsNone(come_number(GOOD_LINE, cells))
        self.assertIsNone(come_number(SWINGING, (1, 0, 1, 0)))

    def test_bad_lines(self):
        for value, index in BAD_LINES:
            for function, more in ((come_number, ((0,),)), (come_number, (None,)), (come_at, (0,)), (come_at, (-1,)),
                                   (first_come, ()), (last_come, ()), (come_between, ((0,), (0,))),
                                   (come_between, (None, None))):
                with self.assertRaises(BadLine) as caught:
                    function(value, *more)
                self.assertEqual(caught.exception.index, index, value)

    def test_bad_cells(self):
        own = GOOD_LINE[0]
        for value in BAD_CELLS:
            self.assertRaises(BadCells, come_number, GOOD_LINE, value)
            self.assertRaises(BadCells, come_between, GOOD_LINE, value, own)
            self.assertRaises(BadCells, come_between, GOOD_LINE, own, value)
            self.assertRaises(BadCells, come_between, GOOD_LINE, value, value)

    def test_bad_indices(self):
        self.assertEqual([come_count(GOOD_LINE), come_count(SWINGING)], [5, 7])
        for index in no_integer_within(0, 4):
            self.assertRaises(BadIndex, come_at, GOOD_LINE, index)
        for index in no_integer_within(0, 6):
            self.assertRaises(BadIndex, come_at, SWINGING, index)
