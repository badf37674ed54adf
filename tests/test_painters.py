"""Promise 30: two painters."""

import itertools
import random
import unittest

from flankturns.errors import BadFrame, BadPainted, TooMany
from flankturns.painters import painters_cells, painters_value
from tests.tools import ANYTHING, BAD_FRAMES, BAD_PAINTED, frames_of, plain_rest

FRAME = (5, (), False)


def all_painted(many):
    """All tuples of painted cells that two painters can come to."""
    return [some for some in itertools.product((None, 0, 1), repeat=many) if some.count(0) - some.count(1) in (0, 1)]


def plain_difference(frame, cells):
    """How many cells more have 0 than 1 at rest, 0 for a line that swings."""
    resting = plain_rest((cells,) + frame[1:])
    return 0 if resting is None else resting.count(0) - resting.count(1)


def plain_plays(frame, painted, known):
    """The difference at last if both do their best, and the cells with which the next one does."""
    if painted not in known:
        cells = [cell for cell, colour in enumerate(painted) if colour is None]
        is_first = painted.count(0) == painted.count(1)
        values = {}
        for cell in cells:
            behind = list(painted)
            behind[cell] = 0 if is_first else 1
            values[cell] = plain_plays(frame, tuple(behind), known)[0]
        if not cells:
            known[painted] = plain_difference(frame, painted), ()
        else:
            best = max(values.values()) if is_first else min(values.values())
            known[painted] = best, tuple(cell for cell in cells if values[cell] == best)
    return known[painted]


class TestPainters(unittest.TestCase):
    def assert_painted(self, frame, painted, known):
        value, cells = plain_plays(frame, painted, known)
        self.assertEqual(painters_value(frame, painted), value, (frame, painted))
        self.assertEqual(painters_cells(frame, painted), cells, (frame, painted))

    def test_all_plays_of_small_frames(self):
        for frame in frames_of((1, 2, 3, 4), False) + frames_of((3, 4), True):
            known = {}
            for painted in all_painted(frame[0]):
                self.assert_painted(frame, painted, known)
        for frame in frames_of((5, 6), False, 1) + frames_of((5, 6), True, 1) + [(6, (1, 4), True)]:
            known = {}
            for painted in all_painted(frame[0])[::5]:
                self.assert_painted(frame, painted, known)

    def test_seven_and_eight_cells(self):
        luck = random.Random(300)
        for frame in ((7, (), False), (7, (), True), (8, (), False), (8, (), True), (8, (3,), True), (8, (2, 4), False),
                      (8, tuple(range(8)), True)):
            known = {}
            for painted in [(None,) * frame[0]] + luck.sample(all_painted(frame[0]), 12):
                self.assert_painted(frame, painted, known)

    def test_all_cells_painted(self):
        for frame in ((1, (), False), (4, (), False), (4, (), True), (7, (2,), True), (8, (), True), (8, (), False)):
            for painted in all_painted(frame[0]):
                if None not in painted:
                    self.assertEqual(painters_cells(frame, painted), ())
                    self.assertEqual(painters_value(frame, painted), plain_difference(frame, painted))

    def test_rings_that_swing(self):
        self.assertEqual(painters_value((4, (), True), (0, 1, 0, 1)), 0)
        self.assertEqual(painters_value((8, (), True), (1, 0) * 4), 0)
        self.assertEqual(painters_value((8, (0,), True), (1, 0) * 4), -8)
        # To make the ring swing is the best that is left.
        self.assertEqual(painters_value((4, (), True), (0, 1, 0, None)), 0)
        self.assertEqual(painters_cells((4, (), True), (0, 1, 0, None)), (3,))

    def test_who_is_next(self):
        self.assertEqual(painters_value((1, (), False), (None,)), 1)
        self.assertEqual(painters_value((2, (), False), (None, 0)), 0)
        self.assertEqual(painters_value((3, (), False), (None,) * 3), 1)
        self.assertEqual(painters_cells((3, (), False), (0, 1, None)), (2,))

    def test_nine_cells(self):
        for frame in ((9, (), False), (9, (), True), (9, tuple(range(9)), False), (40, (), True)):
            for painted in ((None,) * frame[0], (0, 1) + (None,) * (frame[0] - 2), (0,) + (None,) * (frame[0] - 1)):
                for function in (painters_value, painters_cells):
                    with self.assertRaises(TooMany) as caught:
                        function(frame, painted)
                    self.assertEqual(caught.exception.most, 8)
            # TooMany comes behind all others.
            for painted in ANYTHING + [(1,) + (None,) * (frame[0] - 1), (None,) * 8]:
                self.assertRaises(BadPainted, painters_value, frame, painted)
                self.assertRaises(BadPainted, painters_cells, frame, painted)
        painted = (0, 1) * 4 + (0,)
        self.assertRaises(TooMany, painters_value, (9, (), False), painted)

    def test_wrong_arguments(self):
        for function in (painters_value, painters_cells):
            for value in BAD_FRAMES:
                for painted in ((None,) * 5, (None,) * 3, None, [], ()):
                    self.assertRaises(BadFrame, function, value, painted)
            for value in BAD_PAINTED:
                self.assertRaises(BadPainted, function, FRAME, value)
                self.assertRaises(BadPainted, function, (5, (2,), True), value)
