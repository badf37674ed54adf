"""Promise 27: lines joined and changed."""

import itertools
import random
import unittest

from flankturns.errors import BadCell, BadKind, BadLine, BadNames, TooMany
from flankturns.joins import joined, mirrored, opened, renamed, shifted
from flankturns.leaders import leader_count
from flankturns.linetext import read_line
from flankturns.steps import after, rest, rest_time
from tests.tools import (ANYTHING, BAD_LINES, BAD_NAMES, GOOD_LINE, SWINGING, in_turn, no_integer_within, plain_rest,
                         plain_swings, random_line, sample_lines)

RING = ((0, 1, 0, 1, 2), (1, 3), True)
BY_NAMES = tuple(range(9, -1, -1))


def some_lines():
    """Rows and rings, short and long."""
    luck = random.Random(270)
    return sample_lines()[::12] + [random_line(luck, 40, 4) for _ in range(40)]


class TestJoins(unittest.TestCase):
    def test_joined(self):
        rows = [line for line in some_lines() if not line[2] and len(line[0]) <= 20]
        for one, other in itertools.product(rows[::4], rows[::5]):
            found = joined(one, other)
            many = len(one[0])
            self.assertEqual(found[0][:many], one[0])
            self.assertEqual(found[0][many:], other[0])
            for cell in range(len(found[0])):
                self.assertEqual(cell in found[1], cell in one[1] if cell < many else cell - many in other[1])
            self.assertEqual((found[1], found[2]), (tuple(sorted(found[1])), False))
        self.assertEqual(joined(read_line("0*12*"), read_line("34*")), read_line("0*12*34*"))
        self.assertEqual(joined(((5,), (), False), ((6,), (0,), False)), ((5, 6), (1,), False))

    def test_joined_rows_of_40_cells_and_of_41(self):
        for one, other in ((20, 20), (1, 39), (39, 1), (37, 3)):
            left, right = in_turn((one,)), in_turn((other, other - 1))
            self.assertEqual(joined(left, right), (left[0] + right[0], (39,), False))
        for one, other in ((20, 21), (1, 40), (40, 1), (40, 40)):
            with self.assertRaises(TooMany) as caught:
                joined(in_turn((one,)), in_turn((other,)))
            self.assertEqual(caught.exception.most, 40)
        # TooMany comes behind all others.
        self.assertRaises(BadKind, joined, in_turn((40,)), in_turn((40,), True))
        self.assertRaises(BadKind, joined, in_turn((40,), True), in_turn((40,)))
        for value, index in BAD_LINES:
            with self.assertRaises(BadLine) as caught:
                joined(in_turn((40,)), value)
            self.assertEqual(caught.exception.index, index)

    def test_mirrored(self):
        for line in some_lines():
            found = mirrored(line)
            many = len(line[0])
            for cell in range(many):
                self.assertEqual(found[0][cell], line[0][many - 1 - cell])
                self.assertEqual(cell in found[1], many - 1 - cell in line[1])
            self.assertEqual((found[1], found[2]), (tuple(sorted(found[1])), line[2]))
            self.assertEqual(mirrored(found), line)
            if not plain_swings(line):
                self.assertEqual(rest(found), mirrored(rest(line)))
        self.assertEqual(mirrored(read_line("0*12*34")), read_line("432*10*"))

    def test_shifted(self):
        for line in some_lines():
            many = len(line[0])
            for by in range(many) if line[2] else ():
                found = shifted(line, by)
                for cell in range(many):
                    self.assertEqual(found[0][cell], line[0][(cell + by) % many])
                    self.assertEqual(cell in found[1], (cell + by) % many in line[1])
                self.assertEqual((found[1], found[2]), (tuple(sorted(found[1])), True))
                self.assertEqual(shifted(found, (many - by) % many), line)
                if by == 2 and not plain_swings(line):
                    self.assertEqual(rest(found), shifted(rest(line), by))
        self.assertEqual(shifted(read_line("01*23*4o"), 2), read_line("23*401*o"))
        self.assertEqual(shifted(in_turn((40,), True), 39), ((1, 0) * 20, (), True))

    def test_opened(self):
        for line in some_lines():
            many = len(line[0])
            for cell in line[1] if line[2] and many < 40 else ():
                found = opened(line, cell)
                self.assertEqual(len(found[0]), many + 1)
                self.assertEqual((found[0][-1], found[2]), (line[0][cell], False))
                for other in range(many):
                    self.assertEqual(found[0][other], line[0][(cell + other) % many])
                    self.assertEqual(other in found[1], other > 0 and (cell + other) % many in line[1])
                self.assertEqual(found[1], tuple(sorted(found[1])))
                self.assertNotIn(many, found[1])
                # At rest, and by time, both are the same.
                self.assertEqual(rest(found), opened(rest(line), cell))
                self.assertEqual(rest_time(found), rest_time(line))
                for steps in (1, 2, 3):
                    self.assertEqual(after(found, steps), opened(after(line, steps), cell))
        self.assertEqual(opened(read_line("01*23*4o"), 3), read_line("3401*23"))
        self.assertEqual(opened(((0, 1, 2), (0, 1, 2), True), 2), ((2, 0, 1, 2), (1, 2), False))

    def test_opened_rings_of_39_cells_and_of_40(self):
        ring = in_turn((39, 3, 38), True)
        self.assertEqual(opened(ring, 38), (ring[0][38:] + ring[0], (4,), False))
        for line in (in_turn((40, 0), True), in_turn((40,) + tuple(range(40)), True)):
            with self.assertRaises(TooMany) as caught:
                opened(line, 0)
            self.assertEqual(caught.exception.most, 40)
        for cell in no_integer_within(0, 39) + [1, 2, 39]:
            self.assertRaises(BadCell, opened, in_turn((40, 0), True), cell)

    def test_renamed(self):
        luck = random.Random(271)
        for line in some_lines():
            for _ in range(3):
                names = tuple(luck.sample(range(10), 10))
                found = renamed(line, names)
                self.assertEqual(found, (tuple(names[colour] for colour in line[0]), line[1], line[2]))
                back = tuple(names.index(colour) for colour in range(10))
                self.assertEqual(renamed(found, back), line)
                if not plain_swings(line):
                    self.assertEqual(rest(found), renamed(rest(line), names))
        self.assertEqual(renamed(read_line("01*29o"), BY_NAMES), read_line("98*70o"))
        self.assertEqual(renamed(GOOD_LINE, tuple(range(10))), GOOD_LINE)

    def test_changed_lines_have_as_many_leaders(self):
        for line in some_lines()[::8]:
            if plain_rest(line) is not None and len(line[0]) < 12:
                resting = rest(line)
                number = leader_count(resting, 10)
                self.assertEqual(leader_count(mirrored(resting), 10), number)
                self.assertEqual(leader_count(renamed(resting, BY_NAMES), 10), number)

    def test_bad_lines(self):
        for value, index in BAD_LINES:
            for function, more in ((joined, (GOOD_LINE,)), (joined, (RING,)), (joined, (None,)), (mirrored, ()),
                                   (shifted, (0,)), (shifted, (None,)), (opened, (0,)), (opened, (None,)),
                                   (renamed, (BY_NAMES,)), (renamed, (None,))):
                with self.assertRaises(BadLine) as caught:
                    function(value, *more)
                self.assertEqual(caught.exception.index, index, value)
            with self.assertRaises(BadLine) as caught:
                joined(GOOD_LINE, value)
            self.assertEqual(caught.exception.index, index, value)

    def test_bad_kinds(self):
        for value in [GOOD_LINE, RING] + ANYTHING:
            self.assertRaises(BadKind, joined, RING, value)
            self.assertRaises(BadKind, joined, SWINGING, value)
        self.assertRaises(BadKind, joined, GOOD_LINE, RING)
        for value in [0, 1, 2] + ANYTHING:
            for row in (GOOD_LINE, ((0, 1, 0), (1,), False), in_turn((40, 1))):
                self.assertRaises(BadKind, shifted, row, value)
                self.assertRaises(BadKind, opened, row, value)

    def test_bad_cells(self):
        for value in no_integer_within(0, 4):
            self.assertRaises(BadCell, shifted, RING, value)
            self.assertRaises(BadCell, opened, RING, value)
        for cell in (0, 2, 4):
            self.assertRaises(BadCell, opened, RING, cell)
        self.assertRaises(BadCell, opened, SWINGING, 0)

    def test_bad_names(self):
        for value in BAD_NAMES:
            for line in (GOOD_LINE, SWINGING, ((0,), (), False)):
                self.assertRaises(BadNames, renamed, line, value)
