"""Promise 33: lines without a before, and the ages of lines."""

import unittest

from flankturns.errors import BadCount, BadFrame, TooMany
from flankturns.frames import lines_by_time
from flankturns.gardens import age_counts, garden_count, least_garden
from flankturns.pasts import before_count, least_before
from tests.tools import BAD_FRAMES, frames_of, lines_of, no_integer_within, plain_step, plain_swings

ALL = (garden_count, least_garden, age_counts)


def ages_of(frame, colours):
    """For each line its age: the greatest number of steps behind which another one comes to it."""
    ages = {line: 0 for line in lines_of(frame, colours)}
    for line in ages:
        if plain_swings(line):
            continue
        steps, behind = 1, plain_step(line)
        ahead = line
        while behind != ahead:
            ages[behind] = max(ages[behind], steps)
            steps, ahead, behind = steps + 1, behind, plain_step(behind)
    return ages


class TestGardens(unittest.TestCase):
    def assert_frame(self, frame, colours):
        lines = lines_of(frame, colours)
        reached = {plain_step(line) for line in lines}
        gardens = [line[0] for line in lines if line not in reached]
        self.assertEqual(garden_count(frame, colours), len(gardens), (frame, colours))
        self.assertEqual(least_garden(frame, colours), gardens[0] if gardens else None, (frame, colours))
        ages = list(ages_of(frame, colours).values())
        wanted = tuple(ages.count(age) for age in range(max(ages) + 1))
        self.assertEqual(age_counts(frame, colours), wanted, (frame, colours))

    def test_small_frames(self):
        for frame in frames_of((1, 2, 3, 4), False) + frames_of((3, 4), True):
            for colours in (1, 2, 3):
                self.assert_frame(frame, colours)
        for frame in frames_of((5, 6), False, 1) + frames_of((5, 6), True, 2):
            self.assert_frame(frame, 2)
        for frame in ((8, (), False), (8, (), True), (9, (), True), (9, (3,), False), (10, (5,), True)):
            self.assert_frame(frame, 2)
        for frame in ((6, (), True), (6, (), False), (7, (0,), True)):
            self.assert_frame(frame, 3)
        self.assert_frame((4, (), True), 5)

    def test_same_as_befores(self):
        for frame, colours in (((6, (), True), 2), ((5, (), False), 3), ((5, (2,), True), 2)):
            gardens = [line for line in lines_of(frame, colours) if before_count(line, colours) == 0]
            self.assertEqual(garden_count(frame, colours), len(gardens))
            self.assertEqual(least_garden(frame, colours), gardens[0][0])
            self.assertIsNone(least_before(gardens[0], colours))

    def test_frames_without_a_garden(self):
        for frame, colours in (((1, (), False), 10), ((2, (), False), 10), ((3, (1,), False), 10),
                               ((4, (1, 2), False), 10), ((40, (), True), 1), ((40, (), False), 1),
                               ((4, (0, 1, 2, 3), True), 10), ((14, tuple(range(14)), True), 2)):
            self.assertEqual([garden_count(frame, colours), least_garden(frame, colours)], [0, None])
            self.assertEqual(age_counts(frame, colours), (colours ** frame[0],))

    def test_lines_that_swing(self):
        # They have befores, and their age is 0.
        self.assertEqual(ages_of((4, (), True), 2)[(0, 1, 0, 1), (), True], 0)
        self.assertEqual(age_counts((4, (), True), 2), (14, 2))
        self.assertEqual(garden_count((4, (), True), 2), 8)

    def test_twenty_thousand_lines(self):
        for frame, colours in (((14, (), False), 2), ((14, (), True), 2), ((9, (), True), 3), ((4, (), True), 10),
                               ((14, (6,), True), 2)):
            counts = age_counts(frame, colours)
            self.assertEqual(sum(counts), colours ** frame[0])
            # A line that needs the most steps is a garden, and the one to which it comes is the oldest.
            self.assertEqual(len(counts), len(lines_by_time(frame, colours)))
            self.assertGreater(counts[-1], 0)
            cells = least_garden(frame, colours)
            self.assertEqual(before_count((cells,) + frame[1:], colours), 0)
            self.assertGreater(garden_count(frame, colours), 0)
        for frame, colours in (((15, (), False), 2), ((10, (), True), 3), ((5, (), False), 10), ((40, (), True), 2),
                               ((15, tuple(range(15)), False), 2)):
            for function in ALL:
                with self.assertRaises(TooMany) as caught:
                    function(frame, colours)
                self.assertEqual(caught.exception.most, 20000)
                for value in no_integer_within(1, 10):
                    self.assertRaises(BadCount, function, frame, value)

    def test_wrong_arguments(self):
        for function in ALL:
            for value in BAD_FRAMES:
                for colours in (2, 0, None):
                    self.assertRaises(BadFrame, function, value, colours)
            for value in no_integer_within(1, 10):
                self.assertRaises(BadCount, function, (5, (), False), value)
