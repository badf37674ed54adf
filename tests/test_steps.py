"""Promises 5 and 6: steps."""

import unittest

from flankturns.errors import BadCell, BadLine, BadTime, Swings
from flankturns.steps import (after, changes, colour_at, last_turned, rest, rest_time, step, turn_counts, turns_by)
from tests.tools import (BAD_LINES, SWINGING, no_integer_within, plain_course, plain_ready, plain_step, plain_swings,
                         small_lines)

WITHOUT_REST = (rest, rest_time, turn_counts, changes, last_turned)


def course_with_turns(line, many):
    """The lines at first and behind each of some steps, and how often each cell has turned by then."""
    turns = [0] * len(line[0])
    found = [(line, tuple(turns))]
    for _ in range(many):
        for cell in plain_ready(line):
            turns[cell] += 1
        line = plain_step(line)
        found.append((line, tuple(turns)))
    return found


class TestSteps(unittest.TestCase):
    def test_steps_of_all_small_lines(self):
        for line in small_lines():
            self.assertEqual(step(line), plain_step(line), line)
            for many, (behind, turns) in enumerate(course_with_turns(line, 6)):
                self.assertEqual(after(line, many), behind)
                self.assertEqual(turns_by(line, many), turns)

    def test_rest_of_all_small_lines(self):
        for line in small_lines():
            course = plain_course(line)
            if course is None:
                for function in WITHOUT_REST:
                    self.assertRaises(Swings, function, line)
                continue
            time = len(course) - 1
            self.assertEqual(rest(line), course[-1], line)
            self.assertEqual(rest_time(line), time)
            self.assertEqual(turn_counts(line), course_with_turns(line, time)[-1][1])
            self.assertEqual(changes(line), tuple(len(plain_ready(one)) for one in course[:-1]))
            self.assertEqual(last_turned(line), plain_ready(course[-2]) if time else ())

    def test_colour_at_of_all_small_lines(self):
        for line in small_lines()[::5]:
            for many, (behind, _) in enumerate(course_with_turns(line, 4)):
                found = tuple(colour_at(line, cell, many) for cell in range(len(line[0])))
                self.assertEqual(found, behind[0])

    def test_great_numbers_of_steps(self):
        line = ((0, 1) * 20, (), False)
        self.assertEqual(after(line, 1000000), rest(line))
        self.assertEqual(after(line, 19), rest(line))
        self.assertNotEqual(after(line, 18), rest(line))
        self.assertEqual(turns_by(line, 1000000), turn_counts(line))
        self.assertEqual(after(SWINGING, 1000000), SWINGING)
        self.assertEqual(after(SWINGING, 999999), ((1, 0, 1, 0), (), True))
        self.assertEqual(turns_by(SWINGING, 1000000), (1000000,) * 4)
        self.assertEqual(turns_by(SWINGING, 0), (0,) * 4)
        self.assertEqual(colour_at(SWINGING, 0, 1000000), 0)
        self.assertEqual(colour_at(SWINGING, 0, 999999), 1)
        self.assertEqual(colour_at(SWINGING, 3, 999999), 0)
        self.assertEqual(colour_at(line, 19, 1000000), 0)
        self.assertEqual(colour_at(line, 20, 1000000), 1)

    def test_long_lines(self):
        row = ((0, 9) * 20, (), False)
        self.assertEqual(rest(row), ((0,) * 20 + (9,) * 20, (), False))
        self.assertEqual(rest_time(row), 19)
        self.assertEqual(changes(row), tuple(range(38, 0, -2)))
        self.assertEqual(last_turned(row), (19, 20))
        ring = ((0, 9) * 20, (5,), True)
        self.assertEqual(rest(ring), ((9,) * 40, (5,), True))
        self.assertEqual(rest_time(ring), 20)
        self.assertEqual(last_turned(ring), (25,))
        self.assertEqual(changes(ring), tuple(range(39, 0, -2)))
        two = ((0, 9) * 20, (5, 8), True)
        self.assertEqual(rest_time(two), 18)
        self.assertEqual(rest(two)[1:], ((5, 8), True))

    def test_lines_at_rest(self):
        for line in (((4,), (), False), ((4, 5), (), False), ((0, 1, 0), (1,), False), ((0, 0, 1), (2,), True)):
            self.assertEqual(step(line), line)
            self.assertEqual(rest(line), line)
            self.assertEqual(rest_time(line), 0)
            self.assertEqual(turn_counts(line), (0,) * len(line[0]))
            self.assertEqual(changes(line), ())
            self.assertEqual(last_turned(line), ())

    def test_what_is_held_stays(self):
        line = ((0, 1, 0, 1, 0), (2,), False)
        self.assertEqual(step(line), ((0, 0, 0, 0, 0), (2,), False))
        self.assertEqual(rest(line), ((0, 0, 0, 0, 0), (2,), False))

    def test_bad_times(self):
        line = ((0, 1, 0), (), False)
        for many in no_integer_within(0, 1000000):
            self.assertRaises(BadTime, after, line, many)
            self.assertRaises(BadTime, turns_by, line, many)
            self.assertRaises(BadTime, colour_at, line, 0, many)
            self.assertRaises(BadTime, after, SWINGING, many)

    def test_bad_cells(self):
        for cell in no_integer_within(0, 3):
            self.assertRaises(BadCell, colour_at, SWINGING, cell, 1)

    def test_bad_lines(self):
        for value, index in BAD_LINES:
            for function, more in [(step, ()), (after, (1,)), (turns_by, (1,)), (colour_at, (0, 1))] + [
                    (one, ()) for one in WITHOUT_REST]:
                with self.assertRaises(BadLine) as caught:
                    function(value, *more)
                self.assertEqual(caught.exception.index, index, value)

    def test_leftmost_error_comes_first(self):
        self.assertRaises(BadLine, after, ((0, 10), (), False), -1)
        self.assertRaises(BadLine, turns_by, None, None)
        self.assertRaises(BadLine, colour_at, (), 99, -1)
        self.assertRaises(BadCell, colour_at, SWINGING, 4, -1)
        self.assertRaises(BadCell, colour_at, SWINGING, None, 1000001)
        for function in WITHOUT_REST:
            self.assertRaises(BadLine, function, ((0, 1, 0, 1), (4,), True))
            self.assertRaises(Swings, function, SWINGING)

    def test_lines_that_swing_go_on(self):
        self.assertFalse(plain_swings(step(((0, 1, 0, 1), (0,), True))))
        self.assertEqual(step(SWINGING), ((1, 0, 1, 0), (), True))
        self.assertEqual(after(SWINGING, 3), ((1, 0, 1, 0), (), True))
        self.assertEqual(after(SWINGING, 2), SWINGING)
