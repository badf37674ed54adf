"""Promises 2 and 3: lines, ready cells, stretches, swings and depths."""

import unittest

from flankturns.errors import BadCell, BadLine, Swings
from flankturns.lines import depths, ready_cells, stretches, swings, turned
from tests.tools import (ANYTHING, BAD_LINES, SWINGING, frames_of, lines_of, plain_ready, plain_swings, plain_turned,
                         small_lines)


def is_stretch(line, some):
    """Whether cells, each the next neighbour of the one before, have two colours in turn, none held but the ends."""
    cells, held, is_ring = line
    many = len(cells)
    if len(some) < 3 or len(some) > many + 1:
        return False
    if not is_ring and any(cell < 0 or cell >= many for cell in some):
        return False
    colours = [cells[cell % many] for cell in some]
    if colours[0] == colours[1] or any(one != other for one, other in zip(colours, colours[2:])):
        return False
    return not any(cell % many in held for cell in some[1:-1])


def plain_stretches(line):
    """All stretches that cannot be made longer at either end."""
    many = len(line[0])
    if plain_swings(line):
        return ()
    found = []
    for first in range(many):
        for length in range(3, many + 2):
            some = list(range(first, first + length))
            longer = is_stretch(line, [first - 1] + some) or is_stretch(line, some + [first + length])
            if is_stretch(line, some) and not longer:
                found.append(tuple(cell % many for cell in some))
    return tuple(sorted(found))


def plain_depths(line):
    """How many cells each one is from the nearer end of its stretch."""
    found = [0] * len(line[0])
    for some in plain_stretches(line):
        for place, cell in enumerate(some):
            found[cell] = min(place, len(some) - 1 - place)
    return tuple(found)


class TestLines(unittest.TestCase):
    def test_ready_cells_of_all_small_lines(self):
        for line in small_lines():
            self.assertEqual(ready_cells(line), plain_ready(line), line)

    def test_ready_cells(self):
        self.assertEqual(ready_cells(((0, 1, 0, 1, 0, 2, 0), (), False)), (1, 2, 3, 5))
        self.assertEqual(ready_cells(((0, 1, 0, 1, 0, 2, 0), (2, 5), False)), (1, 3))
        self.assertEqual(ready_cells(((1, 0, 0), (), True)), (0,))
        self.assertEqual(ready_cells(((1, 0, 0), (0,), True)), ())
        self.assertEqual(ready_cells(((1, 0, 0), (), False)), ())
        self.assertEqual(ready_cells(((0, 0, 1), (), True)), (2,))
        self.assertEqual(ready_cells(((9, 0, 9), (0, 2), False)), (1,))
        self.assertEqual(ready_cells(((7,), (), False)), ())
        self.assertEqual(ready_cells(((7,), (0,), False)), ())
        self.assertEqual(ready_cells(((0, 9), (), False)), ())
        self.assertEqual(ready_cells(((0, 9) * 20, (), False)), tuple(range(1, 39)))
        self.assertEqual(ready_cells(((0, 9) * 20, (), True)), tuple(range(40)))
        self.assertEqual(ready_cells(((0, 1, 2) * 13, (), True)), ())

    def test_turned_of_all_small_lines(self):
        for line in small_lines():
            for cell in range(len(line[0])):
                if cell in plain_ready(line):
                    self.assertEqual(turned(line, cell), plain_turned(line, cell))
                else:
                    self.assertRaises(BadCell, turned, line, cell)

    def test_turned_keeps_what_is_held(self):
        self.assertEqual(turned(((1, 0, 0, 0), (2,), True), 0), ((0, 0, 0, 0), (2,), True))
        self.assertEqual(turned(((0, 0, 0, 1), (), True), 3), ((0, 0, 0, 0), (), True))
        self.assertEqual(turned(((0, 9, 0), (0,), False), 1), ((0, 0, 0), (0,), False))

    def test_turned_wants_a_cell(self):
        line = ((0, 1, 0, 1, 0), (), False)
        for cell in ANYTHING:
            if cell != 1 or cell is True:
                self.assertRaises(BadCell, turned, line, cell)
        for cell in (-2, -4, 0, 4, 5):
            self.assertRaises(BadCell, turned, line, cell)
        ring = ((0, 1, 0, 1), (), True)
        for cell in (-1, 4, True, False):
            self.assertRaises(BadCell, turned, ring, cell)

    def test_stretches_of_all_small_lines(self):
        for line in small_lines():
            self.assertEqual(stretches(line), plain_stretches(line), line)

    def test_stretches_around_the_seam_of_a_ring(self):
        self.assertEqual(stretches(((1, 0, 0, 0), (), True)), ((3, 0, 1),))
        self.assertEqual(stretches(((0, 1, 0, 2, 2, 1), (), True)), ((5, 0, 1, 2),))
        self.assertEqual(stretches(((1, 0, 2, 0, 3, 0), (0,), True)), ((1, 2, 3), (3, 4, 5)))
        self.assertEqual(stretches(((1, 0, 1, 0, 2, 2, 3, 2), (), True)), ((0, 1, 2, 3), (5, 6, 7)))
        self.assertEqual(stretches(((1, 0, 1, 0, 2, 2, 3, 0), (), True)), ((7, 0, 1, 2, 3),))

    def test_stretches_of_rings_that_alternate(self):
        self.assertEqual(stretches(((0, 1, 0, 1), (), True)), ())
        self.assertEqual(stretches(((0, 1, 0, 1), (0,), True)), ((0, 1, 2, 3, 0),))
        self.assertEqual(stretches(((0, 1, 0, 1), (2,), True)), ((2, 3, 0, 1, 2),))
        self.assertEqual(stretches(((0, 1, 0, 1), (1, 2), True)), ((2, 3, 0, 1),))
        self.assertEqual(stretches(((0, 1, 0, 1), (1, 3), True)), ((1, 2, 3), (3, 0, 1)))
        self.assertEqual(stretches(((0, 1, 0, 1), (0, 1, 2, 3), True)), ())
        self.assertEqual(stretches(((3, 4) * 20, (39,), True)), ((39,) + tuple(range(40)),))
        self.assertEqual(stretches(((3, 4) * 20, (), False)), (tuple(range(40)),))

    def test_swings_of_all_small_lines(self):
        for line in small_lines():
            self.assertIs(swings(line), plain_swings(line), line)

    def test_swings(self):
        self.assertIs(swings(SWINGING), True)
        self.assertIs(swings(((9, 0) * 20, (), True)), True)
        self.assertIs(swings(((9, 0) * 20, (39,), True)), False)
        self.assertIs(swings(((0, 1, 0, 1), (), False)), False)
        self.assertIs(swings(((0, 0, 0, 0), (), True)), False)
        self.assertIs(swings(((0, 1, 0), (), True)), False)
        self.assertIs(swings(((0, 1, 0, 2), (), True)), False)

    def test_depths_of_all_small_lines(self):
        for line in small_lines():
            if plain_swings(line):
                self.assertRaises(Swings, depths, line)
            else:
                self.assertEqual(depths(line), plain_depths(line), line)

    def test_depths(self):
        self.assertEqual(depths(((0, 1, 0, 1, 0, 1), (), False)), (0, 1, 2, 2, 1, 0))
        self.assertEqual(depths(((0, 1, 0, 1, 0, 1), (4,), True)), (2, 3, 2, 1, 0, 1))
        self.assertEqual(depths(((0, 1) * 20, (), False)), tuple(list(range(20)) + list(range(19, -1, -1))))
        self.assertEqual(depths(((5,), (), False)), (0,))
        self.assertEqual(max(depths(((0, 1) * 20, (7,), True))), 20)

    def test_swings_comes_behind_a_bad_line(self):
        for line in (((0, 1, 0, 1), (4,), True), ((0, 1, 0, 1), (), 1), ((0, 1, 0, 1), [], True)):
            self.assertRaises(BadLine, depths, line)

    def test_bad_lines(self):
        for function in (ready_cells, stretches, swings, depths):
            for value, index in BAD_LINES:
                with self.assertRaises(BadLine) as caught:
                    function(value)
                self.assertEqual(caught.exception.index, index, value)

    def test_lines_with_all_that_is_allowed(self):
        for many in (1, 2, 40):
            self.assertEqual(stretches(((0,) * many, tuple(range(many)), False)), ())
        for many in (3, 40):
            self.assertEqual(stretches(((9,) * many, tuple(range(many)), True)), ())
        for frame in frames_of((3,), True):
            for line in lines_of(frame, 2):
                self.assertIs(swings(line), False)
