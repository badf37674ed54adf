"""Promise 22: colours compared that can come one at a time."""

import itertools
import random
import unittest

from flankturns.between import common_count, joined_turns, last_common, turns_between
from flankturns.errors import BadCells, BadLine
from flankturns.singles import come_count, comes_by_turns
from tests.tools import (ANYTHING, BAD_CELLS, BAD_LINES, GOOD_LINE, SWINGING, in_turn, levels_of, sample_lines)

PAIRS = (common_count, last_common, joined_turns)


def turned_cells(line, cells):
    """The cells that have turned for some colours."""
    return {cell for cell, colour in enumerate(line[0]) if cells[cell] != colour}


def known_levels(line, known):
    """What can come from a line, as a dict of all that."""
    if line not in known:
        known[line] = {cells for level in levels_of(line) for cells in level}
    return known[line]


class TestBetween(unittest.TestCase):
    def test_turns_between(self):
        for line in sample_lines()[::5]:
            levels = {cells: many for many, level in enumerate(levels_of(line)) for cells in level}
            for cells in levels:
                self.assertEqual(turns_between(line, cells), levels[cells])
            if len(line[0]) < 8:
                for cells in itertools.product(range(3), repeat=len(line[0])):
                    self.assertEqual(turns_between(line, cells), levels.get(cells), (line, cells))

    def test_all_pairs(self):
        luck = random.Random(220)
        for line in sample_lines()[::3]:
            known = {}
            some = sorted(known_levels(line, known))
            pairs = list(itertools.product(some, repeat=2))
            for one, other in luck.sample(pairs, min(len(pairs), 12)):
                both = known_levels((one,) + line[1:], known) & known_levels((other,) + line[1:], known)
                self.assertEqual(common_count(line, one, other), len(both), (line, one, other))
                common = turned_cells(line, one) & turned_cells(line, other)
                self.assertIn(last_common(line, one, other), some)
                self.assertEqual(turned_cells(line, last_common(line, one, other)), common, (line, one, other))
                joined = turned_cells(line, one) | turned_cells(line, other)
                wanted = [cells for cells in some if turned_cells(line, cells) == joined]
                self.assertEqual(joined_turns(line, one, other), wanted[0] if wanted else None, (line, one, other))
                self.assertIs(joined_turns(line, one, other) is None, not both)

    def test_long_lines(self):
        row, ring = in_turn((40,)), in_turn((40,), True)
        for line in (row, ring, in_turn((40, 7, 20))):
            self.assertEqual(common_count(line, line[0], line[0]), come_count(line))
            self.assertEqual([last_common(line, line[0], line[0]), joined_turns(line, line[0], line[0])], [line[0]] * 2)
            self.assertEqual(turns_between(line, line[0]), 0)
        flat, other = (0,) * 40, (1,) * 40
        self.assertEqual([turns_between(ring, flat), turns_between(ring, other), turns_between(ring, (2,) * 40)],
                         [20, 20, None])
        self.assertEqual([common_count(ring, flat, flat), common_count(ring, flat, other)], [1, 0])
        self.assertEqual([last_common(ring, flat, other), joined_turns(ring, flat, other)], [ring[0], None])
        # With one cell turned at each end of 38 inside, as much can come as of 34.
        one, last = (0, 0) + row[0][2:], row[0][:38] + (1, 1)
        self.assertEqual(common_count(row, one, last), come_count(in_turn((36,))))
        self.assertEqual(joined_turns(row, one, last), (0, 0) + row[0][2:38] + (1, 1))
        self.assertEqual(last_common(row, one, last), row[0])
        beside = row[0][:2] + (1,) + row[0][3:]
        self.assertEqual([common_count(row, one, beside), joined_turns(row, one, beside)], [0, None])
        self.assertEqual(sum(comes_by_turns(row)), common_count(row, row[0], row[0]))

    def test_lines_without_a_turn(self):
        for line in (((5,), (), False), ((5, 6), (), False), ((0, 1, 0), (1,), False), ((0,) * 40, (), True)):
            self.assertEqual(turns_between(line, line[0]), 0)
            self.assertEqual([one(line, line[0], line[0]) for one in PAIRS], [1, line[0], line[0]])

    def test_bad_lines(self):
        for value, index in BAD_LINES:
            for function, more in [(turns_between, ((0,),)), (turns_between, (None,))] + [
                    (one, pair) for one in PAIRS for pair in (((0,), (0,)), (None, []), ((0,), None))]:
                with self.assertRaises(BadLine) as caught:
                    function(value, *more)
                self.assertEqual(caught.exception.index, index, value)

    def test_bad_cells(self):
        own = GOOD_LINE[0]
        for value in BAD_CELLS:
            self.assertRaises(BadCells, turns_between, GOOD_LINE, value)
            for function in PAIRS:
                for pair in ((value, own), (own, value), (value, value)):
                    self.assertRaises(BadCells, function, GOOD_LINE, *pair)
        for value in ANYTHING:
            for function in PAIRS:
                self.assertRaises(BadCells, function, SWINGING, SWINGING[0], value)

    def test_colours_that_cannot_come(self):
        own = GOOD_LINE[0]
        for value in ((0, 2, 0, 1, 0), (1, 1, 0, 1, 0), (0, 0, 1, 1, 0), (0, 0, 1, 0, 0), (9,) * 5):
            self.assertIsNone(turns_between(GOOD_LINE, value))
            for function in PAIRS:
                for pair in ((value, own), (own, value), (value, value), (value, None)):
                    self.assertRaises(BadCells, function, GOOD_LINE, *pair)
