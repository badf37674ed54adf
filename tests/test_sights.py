"""Promises 17 and 18: lines told in part."""

import random
import unittest

from flankturns.errors import BadCount, BadFrame, BadSights
from flankturns.frames import lines_by_time, most_time, swinging_count
from flankturns.leaders import leader_count, leaders_by_time, least_leader
from flankturns.sights import (fit_count, least_fit, next_asked, possible_colours, sure_colours, told_times)
from flankturns.steps import rest, rest_time
from tests.tools import (ANYTHING, BAD_FRAMES, BAD_SIGHTS, frames_of, in_turn, is_as_wished, lines_of,
                         no_integer_within, plain_course, random_frame, random_wish)

FUNCTIONS = (fit_count, least_fit, sure_colours, possible_colours, next_asked, told_times)
FRAME = (5, (), False)
NOTHING = ((None,) * 5, (None,) * 5)


def long_frames():
    """Rows and rings of 39 and of 40 cells."""
    return ((40, (), False), (40, (), True), (39, (), True), (40, (7,), True), (39, (3, 4, 20), False))


class Lines:
    """All lines with frames and colours that come to rest: their colours at first and at rest, and their times."""

    def __init__(self):
        self.known = {}

    def of(self, frame, colours):
        """All of them, ascending."""
        key = (frame, colours)
        if key not in self.known:
            courses = [plain_course(line) for line in lines_of(frame, colours)]
            self.known[key] = [(course[0][0], course[-1][0], len(course) - 1) for course in courses if course]
        return self.known[key]


def plain_possible(fits, many):
    """For each cell the colours at first and at rest of some lines."""
    return tuple(tuple(tuple(sorted({fit[k][cell] for fit in fits})) for cell in range(many)) for k in (0, 1))


def plain_asked(fits, wish, colours):
    """The cell that is best asked next."""
    best = None
    for cell, told in enumerate(wish):
        if told is None:
            most = max(len([1 for fit in fits if fit[0][cell] == colour]) for colour in range(colours))
            if best is None or most < best[0]:
                best = (most, cell)
    return best and best[1]


class TestSights(unittest.TestCase):
    def assert_sights(self, lines, frame, sights, colours):
        fits = [fit for fit in lines.of(frame, colours) if is_as_wished(fit[0], sights[0])
                and is_as_wished(fit[1], sights[1])]
        told = (frame, sights, colours)
        self.assertEqual(fit_count(*told), len(fits), told)
        self.assertEqual(least_fit(*told), fits[0][0] if fits else None, told)
        possible = plain_possible(fits, frame[0])
        self.assertEqual(possible_colours(*told), possible, told)
        sure = tuple(tuple(some[0] if len(some) == 1 else None for some in cells) for cells in possible)
        self.assertEqual(sure_colours(*told), sure if fits else None, told)
        self.assertEqual(next_asked(*told), plain_asked(fits, sights[0], colours), told)
        times = [fit[2] for fit in fits]
        self.assertEqual(told_times(*told), tuple(times.count(time) for time in range(most_time(frame) + 1)), told)

    def assert_sights_of(self, lines, luck, frame, colours):
        many = frame[0]
        sights = (random_wish(luck, many, colours), random_wish(luck, many, colours))
        if luck.random() < 0.6:
            cells, resting, _ = luck.choice(lines.of(frame, colours))
            shares = luck.choice([0, 0.2, 0.5, 1]), luck.choice([0, 0.2, 0.5, 1])
            sights = tuple(tuple(colour if luck.random() < share else None for colour in some)
                           for some, share in zip((cells, resting), shares))
        self.assert_sights(lines, frame, sights, colours)

    def test_all_lines_of_small_frames(self):
        luck = random.Random(170)
        lines = Lines()
        for frame in frames_of((1, 2, 3, 4), False) + frames_of((3, 4), True):
            for colours in (1, 2, 3, 4):
                self.assert_sights(lines, frame, ((None,) * frame[0],) * 2, colours)
                for _ in range(6):
                    self.assert_sights_of(lines, luck, frame, colours)

    def test_all_lines_of_longer_frames(self):
        luck = random.Random(171)
        lines = Lines()
        for most, colours, number in ((9, 2, 60), (6, 3, 40), (5, 5, 20)):
            for _ in range(number):
                frame = random_frame(luck, most)
                for _ in range(6):
                    self.assert_sights_of(lines, luck, frame, colours)
        for frame, colours in (((10, (), True), 2), ((7, (), True), 3), ((5, (), True), 6), ((4, (), True), 8)):
            self.assert_sights(lines, frame, ((None,) * frame[0],) * 2, colours)
            for _ in range(8):
                self.assert_sights_of(lines, luck, frame, colours)

    def test_nothing_told(self):
        for frame in long_frames():
            nothing = ((None,) * frame[0],) * 2
            for colours in (1, 2, 10):
                palette = tuple(range(colours))
                wanted = colours ** frame[0] - swinging_count(frame, colours)
                self.assertEqual(fit_count(frame, nothing, colours), wanted)
                self.assertEqual(told_times(frame, nothing, colours), lines_by_time(frame, colours))
                self.assertEqual(least_fit(frame, nothing, colours), (0,) * frame[0])
                self.assertEqual(possible_colours(frame, nothing, colours), ((palette,) * frame[0],) * 2)
                only = 0 if colours == 1 else None
                self.assertEqual(sure_colours(frame, nothing, colours), ((only,) * frame[0],) * 2)
                self.assertEqual(next_asked(frame, nothing, colours), 0)

    def test_all_told_at_first(self):
        luck = random.Random(172)
        for frame in long_frames():
            for colours in (2, 10):
                cells = tuple(luck.randrange(colours) for _ in range(frame[0]))
                line = (cells,) + frame[1:]
                sights = (cells, (None,) * frame[0])
                self.assertEqual(fit_count(frame, sights, colours), 1)
                self.assertEqual(least_fit(frame, sights, colours), cells)
                self.assertEqual(sure_colours(frame, sights, colours), (cells, rest(line)[0]))
                self.assertIsNone(next_asked(frame, sights, colours))
                times = [0] * (most_time(frame) + 1)
                times[rest_time(line)] = 1
                self.assertEqual(told_times(frame, sights, colours), tuple(times))

    def test_all_told_at_rest(self):
        # The lines that fit are the leaders.
        luck = random.Random(173)
        for frame in long_frames():
            many = frame[0]
            cells = []
            while len(cells) < many:
                cells += [luck.randrange(4)] * luck.choice([2, 3, 5, 9])
            for line in ((tuple(cells[:many]),) + frame[1:], ((1,) * many,) + frame[1:]):
                for colours in (2, 5, 10):
                    sights = ((None,) * many, line[0])
                    self.assertEqual(fit_count(frame, sights, colours), leader_count(line, colours))
                    self.assertEqual(told_times(frame, sights, colours), leaders_by_time(line, colours))
                    self.assertEqual(least_fit(frame, sights, colours), least_leader(line, colours))

    def test_a_cell_told_at_first_and_another_at_rest(self):
        # All that fit are parted by what one cell more has at first, or at rest.
        for frame in long_frames():
            many = frame[0]
            first = tuple(3 if cell == 5 else 0 if cell == 30 else None for cell in range(many))
            last = tuple(1 if cell == 6 else 0 if cell == 31 else None for cell in range(many))
            number = fit_count(frame, (first, last), 10)
            self.assertEqual(sum(told_times(frame, (first, last), 10)), number)
            for cell in (7,):
                parts = [tuple(colour if k == cell else told for k, told in enumerate(first)) for colour in range(10)]
                self.assertEqual(sum(fit_count(frame, (part, last), 10) for part in parts), number)
                parts = [tuple(colour if k == cell else told for k, told in enumerate(last)) for colour in range(10)]
                self.assertEqual(sum(fit_count(frame, (first, part), 10) for part in parts), number)

    def test_next_asked_of_a_long_frame(self):
        frame = (40, (), True)
        first = tuple(0 if cell in (3, 4, 19) else None for cell in range(40))
        last = tuple(1 if cell == 8 else None for cell in range(40))
        most = {}
        for cell in range(40):
            if first[cell] is None:
                parts = [tuple(colour if k == cell else told for k, told in enumerate(first)) for colour in range(3)]
                most[cell] = max(fit_count(frame, (part, last), 3) for part in parts)
        best = min(most.values())
        self.assertEqual(next_asked(frame, (first, last), 3), min(cell for cell in most if most[cell] == best))

    def test_lines_told_turned_round(self):
        luck = random.Random(174)
        for _ in range(2):
            sights = random_wish(luck, 40, 3, 0.1), random_wish(luck, 40, 3, 0.1)
            told = ((40, (), True), sights, 10)
            for by in (1, 13):
                moved = (40, (), True), tuple(wish[by:] + wish[:by] for wish in sights), 10
                self.assertEqual(fit_count(*moved), fit_count(*told))
                self.assertEqual(told_times(*moved), told_times(*told))
                wanted = tuple(some[by:] + some[:by] for some in possible_colours(*told))
                self.assertEqual(possible_colours(*moved), wanted)

    def test_no_line_fits(self):
        swinging = in_turn((40,), True)[0]
        for frame, sights, colours in (((3, (), False), ((None,) * 3, (0, 1, 0)), 10),
                                       ((3, (), False), ((3, None, None), (None,) * 3), 3),
                                       ((3, (), False), ((None,) * 3, (None, None, 9)), 9),
                                       ((1, (), False), ((0,), (1,)), 2),
                                       ((40, (), True), (swinging, (None,) * 40), 2),
                                       ((40, (), True), ((None,) * 40, swinging), 10)):
            many = frame[0]
            told = (frame, sights, colours)
            self.assertEqual(fit_count(*told), 0)
            self.assertIsNone(least_fit(*told))
            self.assertIsNone(sure_colours(*told))
            self.assertEqual(possible_colours(*told), (((),) * many, ((),) * many))
            self.assertEqual(told_times(*told), (0,) * (most_time(frame) + 1))
            untold = [cell for cell in range(many) if sights[0][cell] is None]
            self.assertEqual(next_asked(*told), untold[0] if untold else None)

    def test_bad_frames(self):
        for value in BAD_FRAMES:
            for function in FUNCTIONS:
                self.assertRaises(BadFrame, function, value, NOTHING, 2)
                self.assertRaises(BadFrame, function, value, None, 0)
                self.assertRaises(BadFrame, function, value, ((None,) * 3,) * 2, None)

    def test_bad_sights(self):
        for value in BAD_SIGHTS:
            for function in FUNCTIONS:
                for frame in (FRAME, (5, (1,), True)):
                    self.assertRaises(BadSights, function, frame, value, 2)
                    self.assertRaises(BadSights, function, frame, value, None)
        for function in FUNCTIONS:
            for value in ANYTHING + [NOTHING]:
                self.assertRaises(BadSights, function, (4, (), True), value, 2)

    def test_bad_counts(self):
        for colours in no_integer_within(1, 10):
            for function in FUNCTIONS:
                self.assertRaises(BadCount, function, FRAME, NOTHING, colours)
                self.assertRaises(BadCount, function, FRAME, ((0,) * 5, (0,) * 5), colours)
