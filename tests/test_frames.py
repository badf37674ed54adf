"""Promise 10: frames."""

import unittest
from fractions import Fraction

from flankturns.errors import BadCount, BadFrame
from flankturns.frames import lines_by_time, mean_time, most_time, resting_count, swinging_count
from tests.tools import BAD_FRAMES, frames_of, lines_of, no_integer_within, plain_course

WITH_COLOURS = (resting_count, lines_by_time, swinging_count, mean_time)


def times_of(frame, colours):
    """The times of all lines with a frame, None for each one that swings."""
    courses = [plain_course(line) for line in lines_of(frame, colours)]
    return [None if course is None else len(course) - 1 for course in courses]


def within_by_runs(frame, steps):
    """The number of lines of two colours that come to rest in some steps: no run of ready cells is too long."""
    many, held, is_ring = frame
    free = [cell not in held and (is_ring or 0 < cell < many - 1) for cell in range(many)]
    total = 0
    for pair in [(a, b) for a in (0, 1) for b in (0, 1)]:
        # Beside the last two colours: the length of the run up to the first cell not ready, and of the last run.
        table = {pair + (None, 0): 1}
        for cell in list(range(1, many)) + [0]:
            behind = {}
            for (left, own, first, run), number in table.items():
                rights = (0, 1) if cell and cell < many - 1 else [pair[0]] if cell else [pair[1]]
                for right in rights:
                    key = own, right, *longer(free[cell] and left == right != own, first, run)
                    if key[3] <= 2 * steps and (key[2] or 0) <= 2 * steps:
                        behind[key] = behind.get(key, 0) + number
            table = behind
        # A run that goes on over the seam is one; a ring that has nothing but a run swings.
        total += sum(number for (_, _, first, run), number in table.items()
                     if first is not None and first + run <= 2 * steps)
    return total


def longer(is_ready, first, run):
    """The length of the first run, None as long as there is one only, and that of the last run, behind a cell."""
    if is_ready:
        return first, run + 1
    return (run if first is None else first), 0


class TestFrames(unittest.TestCase):
    def assert_frame(self, frame, colours):
        times = times_of(frame, colours)
        by_time = tuple(times.count(time) for time in range(most_time(frame) + 1))
        self.assertEqual(lines_by_time(frame, colours), by_time, frame)
        self.assertEqual(sum(by_time) + times.count(None), len(times))
        self.assertEqual(resting_count(frame, colours), times.count(0), frame)
        self.assertEqual(swinging_count(frame, colours), times.count(None), frame)
        resting = [time for time in times if time is not None]
        mean = Fraction(sum(resting), len(resting))
        self.assertEqual(mean_time(frame, colours), (mean.numerator, mean.denominator), frame)
        return by_time

    def test_small_rows(self):
        for frame in frames_of((1, 2, 3, 4), False):
            for colours in (1, 2, 3, 4):
                self.assert_frame(frame, colours)
        for frame in frames_of((5, 6, 7, 8), False, 2):
            self.assertGreater(self.assert_frame(frame, 2)[-1], 0)
        self.assert_frame((5, (), False), 5)
        self.assert_frame((5, (3,), False), 4)
        self.assert_frame((6, (), False), 4)
        self.assert_frame((12, (), False), 2)
        self.assert_frame((12, (5,), False), 2)

    def test_small_rings(self):
        for frame in frames_of((3, 4), True):
            for colours in (1, 2, 3, 4):
                self.assert_frame(frame, colours)
        for frame in frames_of((5, 6, 7, 8), True, 2):
            self.assertGreater(self.assert_frame(frame, 2)[-1], 0)
        self.assert_frame((5, (), True), 6)
        self.assert_frame((6, (), True), 5)
        self.assert_frame((6, (2,), True), 5)
        self.assert_frame((6, (2, 3), True), 4)
        self.assert_frame((7, (), True), 4)
        for frame in ((11, (), True), (12, (), True), (12, (7,), True), (12, (1, 8), True)):
            self.assert_frame(frame, 2)

    def test_ten_colours(self):
        for frame in ((3, (), False), (4, (), False), (4, (), True), (4, (1,), True), (3, (), True)):
            self.assert_frame(frame, 10)

    def test_most_time(self):
        for frame, time in [((1, (), False), 0), ((1, (0,), False), 0), ((2, (), False), 0), ((3, (), False), 1),
                            ((3, (1,), False), 0), ((40, (), False), 19), ((39, (), False), 19),
                            ((40, (0, 39), False), 19), ((40, (20,), False), 10), ((40, (1, 38), False), 18),
                            ((3, (), True), 1), ((4, (), True), 1), ((5, (), True), 2), ((6, (), True), 2),
                            ((39, (), True), 19), ((40, (), True), 19), ((40, (0,), True), 20),
                            ((40, (39,), True), 20), ((39, (17,), True), 19), ((4, (2,), True), 2),
                            ((40, (0, 20), True), 10), ((40, (10, 12), True), 19), ((40, (0, 39), True), 19),
                            ((3, (0,), True), 1), ((3, (0, 1), True), 1), ((3, (0, 1, 2), True), 0),
                            ((40, tuple(range(40)), True), 0), ((40, tuple(range(40)), False), 0),
                            ((40, tuple(range(0, 40, 2)), True), 1)]:
            self.assertEqual(most_time(frame), time, frame)

    def test_long_frames(self):
        for frame in ((40, (), False), (40, (), True), (39, (), True), (40, (9,), True), (40, (3, 4, 22), True),
                      (40, (30,), False), (39, (0,), True)):
            within = [within_by_runs(frame, steps) for steps in range(most_time(frame) + 1)]
            wanted = tuple(one - other for one, other in zip(within, [0] + within))
            self.assertEqual(lines_by_time(frame, 2), wanted, frame)
            self.assertEqual(resting_count(frame, 2), wanted[0])
            for colours in (1, 2, 3, 10):
                by_time = lines_by_time(frame, colours)
                self.assertEqual(sum(by_time) + swinging_count(frame, colours), colours ** frame[0])
                self.assertEqual(resting_count(frame, colours), by_time[0])
                mean = Fraction(sum(time * number for time, number in enumerate(by_time)), sum(by_time))
                self.assertEqual(mean_time(frame, colours), (mean.numerator, mean.denominator))

    def test_last_of_long_frames(self):
        # All cells in turn; or all but one at either end of the row.
        self.assertEqual(lines_by_time((40, (), False), 10)[-1], 90 + 2 * 90 * 9)
        self.assertEqual(lines_by_time((39, (), False), 10)[-1], 90)
        self.assertEqual(lines_by_time((39, (), True), 10)[-1], 39 * 90)
        self.assertEqual(lines_by_time((40, (), True), 10)[-1], 40 * 90 * 9)
        self.assertEqual(lines_by_time((40, (6,), True), 10)[-1], 90)

    def test_swinging_count(self):
        self.assertEqual(swinging_count((40, (), True), 10), 90)
        self.assertEqual(swinging_count((40, (), True), 1), 0)
        self.assertEqual(swinging_count((39, (), True), 10), 0)
        self.assertEqual(swinging_count((40, (0,), True), 10), 0)
        self.assertEqual(swinging_count((40, (), False), 10), 0)

    def test_one_colour_and_all_held(self):
        self.assertEqual(lines_by_time((40, (), True), 1), (1,) + (0,) * 19)
        self.assertEqual(mean_time((40, (), True), 1), (0, 1))
        held = (40, tuple(range(40)), True)
        self.assertEqual(lines_by_time(held, 10), (10 ** 40,))
        self.assertEqual(mean_time(held, 10), (0, 1))
        self.assertEqual(resting_count(held, 10), 10 ** 40)
        self.assertEqual(lines_by_time((1, (), False), 10), (10,))
        self.assertEqual(lines_by_time((2, (), False), 10), (100,))

    def test_bad_frames(self):
        for value in BAD_FRAMES:
            self.assertRaises(BadFrame, most_time, value)
            for function in WITH_COLOURS:
                self.assertRaises(BadFrame, function, value, 2)
                self.assertRaises(BadFrame, function, value, 0)

    def test_bad_counts(self):
        for colours in no_integer_within(1, 10):
            for function in WITH_COLOURS:
                for frame in ((3, (), False), (4, (), True), (5, (), True)):
                    self.assertRaises(BadCount, function, frame, colours)
