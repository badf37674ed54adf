"""Promise 7: masses, gains and borders."""

import unittest

from flankturns.errors import BadLine, Swings
from flankturns.masses import borders, gains, lost_borders, masses
from tests.tools import BAD_LINES, SWINGING, plain_course, small_lines


def plain_borders(line):
    """The number of pairs of neighbours of unlike colours, pair by pair."""
    cells, _, is_ring = line
    many = len(cells)
    pairs = [(k, (k + 1) % many) for k in range(many if is_ring else many - 1)]
    return len([1 for one, other in pairs if cells[one] != cells[other]])


class TestMasses(unittest.TestCase):
    def test_all_small_lines(self):
        for line in small_lines():
            cells = line[0]
            self.assertEqual(masses(line), tuple((c, cells.count(c)) for c in range(10) if c in cells), line)
            self.assertEqual(borders(line), plain_borders(line), line)
            course = plain_course(line)
            if course is None:
                self.assertRaises(Swings, gains, line)
                self.assertRaises(Swings, lost_borders, line)
                continue
            resting = course[-1][0]
            wanted = tuple((c, resting.count(c) - cells.count(c)) for c in range(10) if c in cells)
            self.assertEqual(gains(line), wanted, line)
            self.assertEqual(lost_borders(line), plain_borders(line) - plain_borders(course[-1]), line)

    def test_masses(self):
        self.assertEqual(masses(((9, 0, 9), (), False)), ((0, 1), (9, 2)))
        self.assertEqual(masses((tuple(range(9, -1, -1)), (), True)), tuple((c, 1) for c in range(10)))
        self.assertEqual(masses(((4,), (), False)), ((4, 1),))
        self.assertEqual(masses(((4,) * 40, (), True)), ((4, 40),))
        self.assertEqual(masses(SWINGING), ((0, 2), (1, 2)))

    def test_gains(self):
        self.assertEqual(gains(((0, 1, 0, 1), (), False)), ((0, 0), (1, 0)))
        self.assertEqual(gains(((0, 1, 0, 1), (0,), True)), ((0, 2), (1, -2)))
        self.assertEqual(gains(((9, 3, 9), (), False)), ((3, -1), (9, 1)))
        self.assertEqual(gains(((4,), (), False)), ((4, 0),))

    def test_borders(self):
        self.assertEqual(borders(((4,), (), False)), 0)
        self.assertEqual(borders(((4, 5), (), False)), 1)
        self.assertEqual(borders(((0, 0, 1), (), True)), 2)
        self.assertEqual(borders(((0, 0, 1), (), False)), 1)
        self.assertEqual(borders(((0, 1) * 20, (), True)), 40)
        self.assertEqual(borders(((0, 1) * 20, (), False)), 39)
        self.assertEqual(borders(((0, 1, 2), (), True)), 3)
        self.assertEqual(lost_borders(((0, 1) * 20, (), False)), 38)
        self.assertEqual(lost_borders(((0, 1) * 20, (3,), True)), 40)
        self.assertEqual(lost_borders(((0, 1, 2), (), True)), 0)

    def test_swings_comes_last(self):
        for function in (gains, lost_borders):
            self.assertRaises(Swings, function, SWINGING)
            self.assertRaises(BadLine, function, ((0, 1, 0, 1), (4,), True))

    def test_bad_lines(self):
        for function in (masses, gains, borders, lost_borders):
            for value, index in BAD_LINES:
                with self.assertRaises(BadLine) as caught:
                    function(value)
                self.assertEqual(caught.exception.index, index, value)
