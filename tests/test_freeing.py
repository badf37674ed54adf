"""Promise 29: cells that are held for some steps, and free again behind them."""

import random
import unittest

from flankturns.errors import BadCell, BadLine, BadTime, Swings
from flankturns.freeing import freed_rest, freed_time
from flankturns.holds import held_rest
from flankturns.steps import rest, rest_time
from tests.tools import (ANYTHING, BAD_HELD, BAD_LINES, GOOD_LINE, SWINGING, held_too, held_tuples, in_turn,
                         no_integer_within, plain_course, plain_step, random_line, sample_lines)


def plain_course_freed(line, cells, many):
    """The lines behind so many steps with some cells held, too, and on until it is at rest; None if it never is."""
    held = held_too(line, cells)
    for _ in range(many):
        held = plain_step(held)
    return plain_course((held[0],) + line[1:])


class TestFreeing(unittest.TestCase):
    def assert_freed(self, line, cells, many):
        course = plain_course_freed(line, cells, many)
        if course is None:
            self.assertRaises(Swings, freed_rest, line, cells, many)
            self.assertRaises(Swings, freed_time, line, cells, many)
        else:
            self.assertEqual(freed_rest(line, cells, many), course[-1], (line, cells, many))
            self.assertEqual(freed_time(line, cells, many), many + len(course) - 1, (line, cells, many))

    def test_small_lines(self):
        lines = sample_lines()[::12] + [in_turn((many,)) for many in (5, 6, 7, 8)]
        lines += [in_turn((many,), True) for many in (4, 6, 8)] + [in_turn((many, 2), True) for many in (5, 6, 7)]
        for line in lines:
            for cells in held_tuples(len(line[0]), 3):
                for many in (0, 1, 2, 3, 5):
                    self.assert_freed(line, cells, many)

    def test_long_lines(self):
        luck = random.Random(290)
        for line in [in_turn((40,)), in_turn((40,), True), in_turn((40, 0), True)] + [
                random_line(luck, 40, 2) for _ in range(20)]:
            for _ in range(10):
                cells = tuple(cell for cell in range(len(line[0])) if luck.random() < 0.1)
                self.assert_freed(line, cells, luck.choice((0, 1, 2, 5, 19, 40)))

    def test_no_steps(self):
        for line in sample_lines()[::30]:
            for cells in ((), (0,), tuple(range(len(line[0])))):
                self.assert_freed(line, cells, 0)
        self.assertEqual([freed_rest(GOOD_LINE, (1, 2), 0), freed_time(GOOD_LINE, (1, 2), 0)],
                         [rest(GOOD_LINE), rest_time(GOOD_LINE)])
        self.assertRaises(Swings, freed_rest, SWINGING, (0,), 0)
        self.assertRaises(Swings, freed_time, SWINGING, (0,), 0)

    def test_very_many_steps(self):
        row, ring = in_turn((40,)), in_turn((40,), True)
        for line in (row, ring, GOOD_LINE, SWINGING, in_turn((39, 5), True)):
            for cells in ((0,), (1, 2), (1, 3)):
                behind = held_rest(line, cells)[0], line[1], line[2]
                self.assertEqual(freed_rest(line, cells, 1000000), rest(behind))
                self.assertEqual(freed_time(line, cells, 1000000), 1000000 + rest_time(behind))
        self.assertEqual(freed_time(row, (), 1000000), 1000000)
        every = tuple(range(40))
        self.assertEqual(freed_rest(row, every, 1000000), rest(row))
        self.assertEqual(freed_time(row, every, 1000000), 1000019)
        self.assertRaises(Swings, freed_rest, ring, every, 999999)
        self.assertRaises(Swings, freed_time, ring, (), 1000000)

    def test_held_cells_stay_held(self):
        line = ((0, 1, 0, 1, 0), (1,), False)
        self.assertEqual(freed_rest(line, (1, 2), 4), ((0, 1, 0, 0, 0), (1,), False))
        self.assertEqual(freed_time(line, (1, 2), 4), 4)
        self.assertEqual(freed_rest(line, (1,), 4), rest(line))

    def test_bad_lines(self):
        for value, index in BAD_LINES:
            for function in (freed_rest, freed_time):
                for more in (((), 0), ((0,), 1), (None, None), ((50,), -1)):
                    with self.assertRaises(BadLine) as caught:
                        function(value, *more)
                    self.assertEqual(caught.exception.index, index, value)

    def test_bad_cells(self):
        for function in (freed_rest, freed_time):
            for value in BAD_HELD:
                for many in [0, 3] + ANYTHING:
                    self.assertRaises(BadCell, function, GOOD_LINE, value, many)
                    self.assertRaises(BadCell, function, SWINGING, value, many)

    def test_bad_times(self):
        for function in (freed_rest, freed_time):
            for value in no_integer_within(0, 1000000):
                self.assertRaises(BadTime, function, GOOD_LINE, (1,), value)
                self.assertRaises(BadTime, function, SWINGING, (), value)
