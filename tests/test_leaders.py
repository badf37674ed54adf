"""Promise 9: leaders."""

import unittest

from flankturns.errors import BadCount, BadLine
from flankturns.frames import most_time
from flankturns.leaders import leader_count, leaders_by_time, least_leader, slowest_leader
from flankturns.steps import rest, rest_time
from tests.tools import BAD_LINES, SWINGING, frames_of, lines_of, no_integer_within, plain_course

FUNCTIONS = (leader_count, leaders_by_time, least_leader, slowest_leader)


def leaders_of(frame, colours):
    """A dict from the colours of lines at rest to the ascending lists of (leader, its time)."""
    found = {}
    for line in lines_of(frame, colours):
        course = plain_course(line)
        if course is not None:
            found.setdefault(course[-1][0], []).append((line[0], len(course) - 1))
    return found


def isolated(many, colours, is_ring):
    """How many ways there are to give some of so many cells another colour, no two neighbours of each other."""
    one, other = 1, 1
    for _ in range(many):
        one, other = other, other + (colours - 1) * one
    if not is_ring:
        return other
    return isolated(many - 1, colours, False) + (colours - 1) * isolated(many - 3, colours, False)


class TestLeaders(unittest.TestCase):
    def assert_leaders(self, frame, colours):
        leaders = leaders_of(frame, colours)
        for line in lines_of(frame, colours):
            some = leaders.get(line[0], [])
            times = [time for _, time in some]
            by_time = tuple(times.count(time) for time in range(most_time(frame) + 1))
            self.assertEqual(leader_count(line, colours), len(some), line)
            self.assertEqual(leaders_by_time(line, colours), by_time, line)
            self.assertEqual(least_leader(line, colours), some[0][0] if some else None, line)
            slow = [cells for cells, time in some if time == max(times)]
            self.assertEqual(slowest_leader(line, colours), slow[0] if some else None, line)

    def test_small_rows(self):
        for frame in frames_of((1, 2, 3, 4), False):
            for colours in (1, 2, 3):
                self.assert_leaders(frame, colours)
        for frame in frames_of((5, 6, 7), False, 1):
            self.assert_leaders(frame, 2)
        self.assert_leaders((5, (), False), 3)
        self.assert_leaders((6, (), False), 3)
        self.assert_leaders((10, (), False), 2)

    def test_small_rings(self):
        for frame in frames_of((3, 4), True):
            for colours in (1, 2, 3):
                self.assert_leaders(frame, colours)
        for frame in frames_of((5, 6), True, 2):
            self.assert_leaders(frame, 2)
        for many in (7, 8, 9, 10):
            self.assert_leaders((many, (), True), 2)
        self.assert_leaders((8, (5,), True), 2)
        self.assert_leaders((9, (2, 5), True), 2)
        self.assert_leaders((5, (), True), 3)
        self.assert_leaders((6, (), True), 3)
        self.assert_leaders((6, (4,), True), 3)

    def test_flat_rings_of_many_colours(self):
        for many, colours in ((4, 6), (5, 5), (6, 5), (7, 4)):
            leaders = leaders_of((many, (), True), colours)
            for own in range(colours):
                line = ((own,) * many, (), True)
                some = leaders[line[0]]
                slow = max(time for _, time in some)
                self.assertEqual(leader_count(line, colours), len(some))
                self.assertEqual(least_leader(line, colours), some[0][0])
                self.assertEqual(slowest_leader(line, colours), min(cells for cells, time in some if time == slow))
                for steps, number in enumerate(leaders_by_time(line, colours)):
                    self.assertEqual(number, len([1 for _, time in some if time == steps]))

    def test_lines_not_at_rest(self):
        for line in (((0, 1, 0), (), False), SWINGING, ((0, 0, 1, 0), (), True), ((1, 0, 1, 0, 0), (), False)):
            places = most_time((len(line[0]), line[1], line[2])) + 1
            self.assertEqual(leader_count(line, 3), 0)
            self.assertEqual(leaders_by_time(line, 3), (0,) * places)
            self.assertIsNone(least_leader(line, 3))
            self.assertIsNone(slowest_leader(line, 3))
        self.assertEqual(leader_count(((0, 1, 0), (1,), False), 2), 1)

    def test_colours_beyond_those_that_are_meant(self):
        for line in (((2, 2, 2), (), False), ((0, 0, 2, 2), (), True), ((0, 0, 0, 5), (3,), True)):
            places = most_time((len(line[0]), line[1], line[2])) + 1
            self.assertEqual(leader_count(line, 2), 0)
            self.assertEqual(leaders_by_time(line, 2), (0,) * places)
            self.assertIsNone(least_leader(line, 2))
            self.assertIsNone(slowest_leader(line, 2))
        self.assertEqual(leader_count(((2, 2, 2), (), False), 3), 3)

    def test_shortest_lines(self):
        self.assertEqual([one(((7,), (), False), 8) for one in FUNCTIONS], [1, (1,), (7,), (7,)])
        self.assertEqual([one(((7, 0), (), False), 8) for one in FUNCTIONS], [1, (1,), (7, 0), (7, 0)])
        self.assertEqual([one(((1, 1, 1), (), True), 2) for one in FUNCTIONS], [4, (1, 3), (0, 1, 1), (0, 1, 1)])

    def test_one_colour(self):
        for line in (((0,) * 40, (), False), ((0,) * 40, (), True), ((0,) * 39, (), True), ((0,) * 40, (3,), True)):
            by_time = leaders_by_time(line, 1)
            self.assertEqual(by_time, (1,) + (0,) * (len(by_time) - 1))
            self.assertEqual(leader_count(line, 1), 1)
            self.assertEqual(least_leader(line, 1), line[0])
            self.assertEqual(slowest_leader(line, 1), line[0])

    def test_long_flat_lines(self):
        for colours in (2, 3, 10):
            row = ((1,) * 40, (), False)
            self.assertEqual(leader_count(row, colours), isolated(38, colours, False))
            held = ((1,) * 40, (4,), True)
            self.assertEqual(leader_count(held, colours), isolated(39, colours, False))
            ring = ((1,) * 40, (), True)
            self.assertEqual(leader_count(ring, colours), isolated(40, colours, True) - 2 * (colours - 1))
            odd = ((1,) * 39, (), True)
            self.assertEqual(leader_count(odd, colours), isolated(39, colours, True))
            for line in (row, held, ring, odd):
                by_time = leaders_by_time(line, colours)
                self.assertEqual(sum(by_time), leader_count(line, colours))
                self.assertEqual(len(by_time), most_time((len(line[0]),) + line[1:]) + 1)
                self.assertEqual(by_time[0], 1)

    def test_slowest_of_long_flat_lines(self):
        self.assertEqual(slowest_leader(((1,) * 39, (), False), 10), (1, 0) * 19 + (1,))
        self.assertEqual(slowest_leader(((1,) * 39, (), True), 10), (0, 1) * 19 + (1,))
        self.assertEqual(slowest_leader(((1,) * 40, (), True), 2), (0, 1) * 19 + (1, 1))
        self.assertEqual(slowest_leader(((2,) * 40, (), True), 3), (0, 2) * 19 + (1, 2))
        self.assertEqual(slowest_leader(((0,) * 40, (), True), 2), (0, 0) + (0, 1) * 19)
        self.assertEqual(leaders_by_time(((1,) * 39, (), True), 10)[-1], 39 * 9)
        # The one cell beyond the long stretch keeps the loop's colour, or has a third one.
        self.assertEqual(leaders_by_time(((1,) * 40, (), True), 2)[-1], 40)
        self.assertEqual(leaders_by_time(((1,) * 40, (), True), 3)[-1], 40 * 2 * 2)

    def test_long_lines_of_two_colours(self):
        row = ((0,) * 20 + (9,) * 20, (), False)
        self.assertEqual(slowest_leader(row, 10), (0, 9) * 20)
        self.assertEqual(leaders_by_time(row, 10)[-1], 1)
        self.assertEqual(least_leader(row, 10), (0,) * 20 + (9, 1) + (9, 0) * 8 + (9, 9))
        both = ((3,) * 20 + (9,) * 20, (), True)
        for line in (row, both, ((9,) * 13 + (3,) * 20 + (9,) * 7, (), True)):
            for function in (least_leader, slowest_leader):
                found = (function(line, 10),) + line[1:]
                self.assertEqual(rest(found), line)
            by_time = leaders_by_time(line, 10)
            slow = (slowest_leader(line, 10),) + line[1:]
            self.assertEqual(rest_time(slow), max(time for time, number in enumerate(by_time) if number))
            self.assertEqual(sum(by_time), leader_count(line, 10))

    def test_colours_between_borders(self):
        # The one cell that can turn has neither the colours beside it nor those beside its neighbours.
        line = ((9, 1, 0, 0, 0, 2, 9), (), False)
        self.assertEqual(slowest_leader(line, 10), (9, 1, 0, 3, 0, 2, 9))
        self.assertEqual(leaders_by_time(line, 10), (1, 7, 0, 0))
        self.assertEqual(least_leader(line, 10), line[0])
        high = ((9, 0, 4, 4, 4, 1, 9), (), False)
        self.assertEqual(least_leader(high, 10), (9, 0, 4, 2, 4, 1, 9))
        self.assertEqual(least_leader(((9, 0, 4, 4, 4, 1, 9), (2,), False), 10), (9, 0, 4, 0, 4, 1, 9))

    def test_all_held(self):
        line = ((0, 1) * 20, tuple(range(40)), True)
        self.assertEqual([one(line, 10) for one in FUNCTIONS], [1, (1,), line[0], line[0]])

    def test_bad_lines(self):
        for value, index in BAD_LINES:
            for function in FUNCTIONS:
                with self.assertRaises(BadLine) as caught:
                    function(value, 2)
                self.assertEqual(caught.exception.index, index, value)
                self.assertRaises(BadLine, function, value, 0)

    def test_bad_counts(self):
        for colours in no_integer_within(1, 10):
            for function in FUNCTIONS:
                for line in (((0, 0, 0), (), False), ((0, 1, 0), (), False), SWINGING):
                    self.assertRaises(BadCount, function, line, colours)
