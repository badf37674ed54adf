"""Promise 26: the colours that a cell shows."""

import itertools
import random
import unittest

from flankturns.errors import BadCell, BadCount, BadFrame, BadLine, BadSeen, BadTime, TooMany
from flankturns.seeing import can_be_seen, seen, seen_count
from flankturns.steps import after
from tests.tools import (BAD_FRAMES, BAD_LINES, BAD_TOLD, GOOD_LINE, SWINGING, frames_of, in_turn, lines_of,
                         no_integer_within, plain_step, random_line, small_lines)

FRAME = (5, (), False)


def shown_by(line, many):
    """For each cell of a line its colours at first and behind so many steps."""
    course = [line]
    for _ in range(many):
        course.append(plain_step(course[-1]))
    return [tuple(one[0][cell] for one in course) for cell in range(len(line[0]))]


def plain_can_be_seen(told):
    """Whether colours are one for good, or two in turn up to some place and one for good behind it."""
    for place in range(len(told)):
        in_turns = all(told[k] == told[k % 2] for k in range(place + 1))
        unlike = all(told[k] != told[k + 1] for k in range(place))
        if in_turns and unlike and all(colour == told[place] for colour in told[place:]):
            return True
    return False


class TestSeen(unittest.TestCase):
    def test_small_lines(self):
        for line in small_lines()[::3]:
            for cell, shown in enumerate(shown_by(line, 6)):
                for many in (0, 1, 2, 3, 6):
                    self.assertEqual(seen(line, cell, many), shown[:many + 1], (line, cell, many))

    def test_long_lines(self):
        luck = random.Random(260)
        lines = [in_turn((40,)), in_turn((40,), True), in_turn((40, 0), True), in_turn((39,)), in_turn((40, 13))]
        for line in lines + [random_line(luck, 40, 2) for _ in range(10)]:
            for cell, shown in enumerate(shown_by(line, 40)):
                self.assertEqual(seen(line, cell, 40), shown, (line, cell))
        self.assertEqual(seen(in_turn((40, 0), True), 20, 40), (0, 1) * 10 + (0,) * 21)
        self.assertEqual(seen(in_turn((40,), True), 0, 40), (0, 1) * 20 + (0,))
        self.assertEqual(seen(((7,), (), False), 0, 40), (7,) * 41)

    def test_bad_lines(self):
        for value, index in BAD_LINES:
            for cell, many in ((0, 0), (None, None), (-1, -1)):
                with self.assertRaises(BadLine) as caught:
                    seen(value, cell, many)
                self.assertEqual(caught.exception.index, index, value)

    def test_bad_cells_and_times(self):
        for cell in no_integer_within(0, 4):
            for many in (0, 40, 41, None):
                self.assertRaises(BadCell, seen, GOOD_LINE, cell, many)
        for many in no_integer_within(0, 40):
            self.assertRaises(BadTime, seen, GOOD_LINE, 2, many)
            self.assertRaises(BadTime, seen, SWINGING, 0, many)


class TestSeenCount(unittest.TestCase):
    def assert_frame(self, frame, colours, lengths):
        for many in lengths:
            numbers = {}
            for line in lines_of(frame, colours):
                for cell, shown in enumerate(shown_by(line, many - 1)):
                    numbers[cell, shown] = numbers.get((cell, shown), 0) + 1
            for told in itertools.product(range(colours + 1), repeat=min(many, 4)):
                told = told + told[-1:] * (many - len(told))
                for cell in range(frame[0]):
                    number = numbers.get((cell, told), 0)
                    self.assertEqual(seen_count(frame, colours, cell, told), number, (frame, colours, cell, told))

    def test_small_frames(self):
        for frame in frames_of((1, 2, 3, 4), False)[::3] + frames_of((3, 4), True)[::4]:
            self.assert_frame(frame, 2, (1, 2, 3))
        for frame in ((5, (), False), (6, (), True), (5, (2,), True), (5, (), True)):
            self.assert_frame(frame, 2, (1, 2, 4, 6))
        self.assert_frame((3, (), False), 3, (1, 2, 3))
        self.assert_frame((4, (), True), 3, (3,))

    def test_lines_that_swing_count(self):
        frame = (4, (), True)
        self.assertEqual(seen_count(frame, 3, 2, (0, 1, 0, 1)), 1)
        self.assertEqual(seen_count(frame, 3, 2, (0, 1) * 20 + (0,)), 1)
        self.assertEqual(seen_count(frame, 3, 2, (0, 1, 0, 0)), 0)

    def test_forty_one_places(self):
        self.assertEqual(seen_count((3, (), False), 2, 1, (1,) + (0,) * 40), 1)
        self.assertEqual(seen_count((3, (), False), 2, 1, (0,) * 41), 3)
        self.assertEqual(seen_count((3, (), False), 2, 0, (0,) * 41), 4)
        self.assertEqual(seen_count((40, (), True), 1, 39, (0,) * 41), 1)
        self.assertEqual(seen_count((40, (), False), 1, 0, (1,)), 0)

    def test_twenty_thousand_lines(self):
        # Frames of 16384 and 19683 lines, of 10000 and of just one.
        self.assertEqual(seen_count((14, (), False), 2, 0, (1, 1)), 2 ** 13)
        self.assertEqual(seen_count((14, (), True), 2, 13, (1, 0, 1)), sum(
            1 for line in lines_of((14, (), True), 2) if line[0][13] == 1
            and line[0][12] == line[0][0] == 0 and line[0][11] == line[0][1] == 1))
        self.assertEqual(seen_count((9, (), True), 3, 4, (2,)), 3 ** 8)
        self.assertEqual(seen_count((4, (), False), 10, 1, (5, 3, 3)), 10)
        for frame, colours in (((15, (), False), 2), ((10, (), True), 3), ((5, (), False), 10), ((40, (), True), 2),
                               ((8, (0, 1, 2), False), 4)):
            with self.assertRaises(TooMany) as caught:
                seen_count(frame, colours, 0, (0,))
            self.assertEqual(caught.exception.most, 20000)
            for cell in no_integer_within(0, frame[0] - 1):
                self.assertRaises(BadCell, seen_count, frame, colours, cell, (0,))
            for told in BAD_TOLD:
                self.assertRaises(BadSeen, seen_count, frame, colours, 0, told)

    def test_wrong_arguments(self):
        for value in BAD_FRAMES:
            for more in ((2, 0, (0,)), (0, -1, ()), (None, None, None)):
                self.assertRaises(BadFrame, seen_count, value, *more)
        for value in no_integer_within(1, 10):
            for more in ((0, (0,)), (-1, ()), (None, None)):
                self.assertRaises(BadCount, seen_count, FRAME, value, *more)
        for value in no_integer_within(0, 4):
            for told in ((0,), (), None):
                self.assertRaises(BadCell, seen_count, FRAME, 2, value, told)
        for value in BAD_TOLD:
            self.assertRaises(BadSeen, seen_count, FRAME, 2, 0, value)


class TestCanBeSeen(unittest.TestCase):
    def test_all_short_ones(self):
        for many in range(1, 7):
            for told in itertools.product(range(3), repeat=many):
                self.assertIs(can_be_seen(told), plain_can_be_seen(told), told)

    def test_every_length(self):
        for many in range(1, 42):
            told = tuple(place % 2 for place in range(many))
            self.assertIs(can_be_seen(told), True)
            self.assertIs(can_be_seen((9,) * many), True)
            for place in range(many):
                self.assertIs(can_be_seen(told[:place + 1] + (told[place],) * (many - place - 1)), True)
                other = told[:place] + (2,) + told[place + 1:]
                self.assertIs(can_be_seen(other), plain_can_be_seen(other), other)
            for place in range(1, many - 1):
                back = told[:place] + (told[place - 1],) + told[place:many - 1]
                self.assertIs(can_be_seen(back), False, back)

    def test_what_lines_show_can_be_seen(self):
        luck = random.Random(261)
        for line in [in_turn((40,)), in_turn((40,), True)] + [random_line(luck, 40, 3) for _ in range(30)]:
            for shown in shown_by(line, 25):
                self.assertIs(can_be_seen(shown), True)
        # A row of 79 cells shows this, and no line of 40 does.
        self.assertIs(can_be_seen((0, 1) * 20 + (1,)), True)
        self.assertIs(can_be_seen((0, 1) * 19 + (0, 1, 1)), True)

    def test_same_as_small_lines(self):
        for many in (1, 2, 3):
            shown = set()
            for frame in ((7, (), False), (6, (), True)):
                for line in lines_of(frame, 3):
                    shown.add(tuple(after(line, k)[0][3] for k in range(many)))
            for told in itertools.product(range(3), repeat=many):
                self.assertIs(can_be_seen(told), told in shown, told)

    def test_wrong_arguments(self):
        for value in BAD_TOLD:
            self.assertRaises(BadSeen, can_be_seen, value)
        for many in (0, 42, 43, 100):
            self.assertRaises(BadSeen, can_be_seen, (0,) * many)
            self.assertRaises(BadSeen, can_be_seen, ((0, 1) * many)[:many])
