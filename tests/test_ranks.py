"""Promise 25: lines at rest in order."""

import random
import unittest

from flankturns.errors import BadCount, BadFrame, BadIndex, BadLine
from flankturns.frames import resting_count
from flankturns.ranks import next_rest, rest_at, rest_number
from tests.tools import (BAD_FRAMES, BAD_LINES, GOOD_LINE, frames_of, lines_of, no_integer_within, plain_ready,
                         random_frame)

LONG = ((40, (), False), (40, (), True), (39, (), True), (40, (7,), True), (40, (0, 39), True), (40, (3, 4, 20), False),
        (40, tuple(range(40)), True), (40, tuple(range(0, 40, 2)), False))


class TestRanks(unittest.TestCase):
    def assert_frame(self, frame, colours, more):
        """Against all lines, each one with its place among those at rest; some have more colours than are meant."""
        resting = [line for line in lines_of(frame, colours) if not plain_ready(line)]
        for number, line in enumerate(resting):
            self.assertEqual(rest_at(frame, colours, number), line, (frame, colours))
        for index in (-1, len(resting), len(resting) + 1):
            self.assertRaises(BadIndex, rest_at, frame, colours, index)
        at = 0
        for line in lines_of(frame, colours + more):
            is_one = at < len(resting) and resting[at] == line
            self.assertEqual(rest_number(line, colours), at if is_one else None, (line, colours))
            at += 1 if is_one else 0
            behind = resting[at] if at < len(resting) else None
            self.assertEqual(next_rest(line, colours), behind, (line, colours))

    def test_small_frames(self):
        for frame in frames_of((1, 2, 3, 4), False) + frames_of((3, 4), True):
            for colours in (1, 2, 3):
                self.assert_frame(frame, colours, 1)
        for frame in frames_of((5, 6), False, 1) + frames_of((5, 6), True, 2):
            self.assert_frame(frame, 2, 0)
        for frame in ((8, (), False), (8, (), True), (7, (), True), (8, (3,), True), (9, (2, 4), False)):
            self.assert_frame(frame, 2, 0)
        for frame in ((5, (), True), (5, (), False), (5, (4,), True)):
            self.assert_frame(frame, 4, 0)

    def test_ten_colours(self):
        for frame in ((1, (), False), (2, (), False), (3, (), False), (3, (), True), (3, (1,), True)):
            self.assert_frame(frame, 10, 0)
        self.assertEqual([rest_at((1, (), False), 10, 9), rest_number(((9,), (), False), 10)], [((9,), (), False), 9])

    def test_colours_beyond(self):
        self.assertIsNone(rest_number(((0, 1, 1), (), False), 1))
        self.assertIsNone(rest_number(((5,), (), False), 5))
        self.assertEqual(rest_number(((5,), (), False), 6), 5)
        self.assertIsNone(next_rest(((9, 0, 0), (), False), 2))
        self.assertEqual(next_rest(((0, 9, 0), (), False), 2), ((1, 0, 0), (), False))
        self.assertEqual(next_rest(((0, 0, 9), (), True), 2), ((1, 1, 1), (), True))
        self.assertEqual(next_rest(((0, 1, 9, 9), (0,), False), 2), ((1, 0, 0, 0), (0,), False))

    def test_long_frames(self):
        luck = random.Random(250)
        for frame in LONG:
            for colours in (2, 3, 10):
                total = resting_count(frame, colours)
                zeros = ((0,) * 40)[:frame[0]]
                first, last = rest_at(frame, colours, 0), rest_at(frame, colours, total - 1)
                self.assertEqual(first, (zeros,) + frame[1:])
                self.assertEqual(last[0], tuple(colours - 1 for _ in zeros))
                self.assertIsNone(next_rest(last, colours))
                for index in [0, total - 2] + [luck.randrange(total - 1) for _ in range(3)]:
                    line = rest_at(frame, colours, index)
                    self.assertEqual(plain_ready(line), ())
                    self.assertEqual(line[1:], frame[1:])
                    self.assertEqual(rest_number(line, colours), index)
                    behind = next_rest(line, colours)
                    self.assertGreater(behind[0], line[0])
                    self.assertEqual(rest_number(behind, colours), index + 1)
                for index in (-1, total, total + 1):
                    self.assertRaises(BadIndex, rest_at, frame, colours, index)

    def test_next_of_lines_not_at_rest(self):
        luck = random.Random(251)
        for _ in range(40):
            many, held, is_ring = random_frame(luck, 40)
            line = tuple(luck.randrange(4) for _ in range(many)), held, is_ring
            behind = next_rest(line, 3)
            ahead = rest_number(behind, 3) if behind else resting_count((many, held, is_ring), 3)
            if behind:
                self.assertGreater(behind[0], line[0])
            if ahead:
                self.assertLessEqual(rest_at((many, held, is_ring), 3, ahead - 1)[0], line[0])

    def test_one_colour(self):
        for frame in LONG + ((1, (), False), (3, (), True)):
            line = ((0,) * frame[0],) + frame[1:]
            self.assertEqual([rest_number(line, 1), rest_at(frame, 1, 0), next_rest(line, 1)], [0, line, None])
            self.assertRaises(BadIndex, rest_at, frame, 1, 1)

    def test_bad_lines(self):
        for value, index in BAD_LINES:
            for function in (rest_number, next_rest):
                for colours in (2, 0, None):
                    with self.assertRaises(BadLine) as caught:
                        function(value, colours)
                    self.assertEqual(caught.exception.index, index, value)

    def test_bad_frames(self):
        for value in BAD_FRAMES:
            for colours, index in ((2, 0), (0, -1), (None, None)):
                self.assertRaises(BadFrame, rest_at, value, colours, index)

    def test_bad_counts(self):
        for colours in no_integer_within(1, 10):
            self.assertRaises(BadCount, rest_number, GOOD_LINE, colours)
            self.assertRaises(BadCount, next_rest, GOOD_LINE, colours)
            for index in (0, -1, None):
                self.assertRaises(BadCount, rest_at, (5, (), False), colours, index)

    def test_bad_indices(self):
        for frame, colours, total in (((3, (), False), 2, 6), ((4, (), True), 2, 6), ((1, (), False), 1, 1)):
            self.assertEqual(resting_count(frame, colours), total)
            for index in no_integer_within(0, total - 1):
                self.assertRaises(BadIndex, rest_at, frame, colours, index)
