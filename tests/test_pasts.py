"""Promise 8: befores and pasts."""

import unittest

from flankturns.errors import BadCount, BadLine, BadTime, TooMany
from flankturns.pasts import before_count, befores, least_before, past
from flankturns.steps import after
from tests.tools import BAD_LINES, SWINGING, frames_of, lines_of, no_integer_within, plain_step

# With 5 colours: 3 cells that may have any of them, and 4 pairs of cells that may have been the other way round.
JUST_2000 = ((0,) * 8 + (1, 1, 1, 0, 0, 0, 1, 1, 1, 0, 0), (0, 2, 4, 6, 9, 12, 15), False)


def pasts_of(frame, colours, most):
    """For each number of steps a dict from colours to the ascending list of those that lead to them."""
    current = {line[0]: line for line in lines_of(frame, colours)}
    found = []
    for _ in range(most + 1):
        table = {}
        for first, line in current.items():
            table.setdefault(line[0], []).append(first)
        found.append(table)
        current = {first: plain_step(line) for first, line in current.items()}
    return found


def count_by_pairs(line, colours):
    """The number of befores, cell by cell over the colours of two neighbours."""
    cells, held, is_ring = line
    many = len(cells)
    free = [cell not in held and (is_ring or 0 < cell < many - 1) for cell in range(many)]

    def fits(cell, left, own, right):
        behind = left if free[cell] and left == right else own
        return behind == cells[cell]

    total = 0
    palette = range(colours)
    for start in [(a, b) for a in palette for b in palette]:
        table = {start: 1}
        for cell in range(1, many - 1):
            behind = {}
            for (left, own), number in table.items():
                for right in palette:
                    if fits(cell, left, own, right):
                        behind[own, right] = behind.get((own, right), 0) + number
            table = behind
        for (left, own), number in table.items():
            if fits(many - 1, left, own, start[0]) and fits(0, own, start[0], start[1]):
                total += number
    return total


def turned_line(line, by):
    """A ring whose cell k is the cell k + by of a ring."""
    cells, held, _ = line
    many = len(cells)
    return cells[by:] + cells[:by], tuple(sorted((cell - by) % many for cell in held)), True


class TestPasts(unittest.TestCase):
    def assert_pasts(self, frame, colours, most=4):
        pasts = pasts_of(frame, colours, most)
        for line in lines_of(frame, colours):
            some = pasts[1].get(line[0], [])
            self.assertEqual(before_count(line, colours), len(some), line)
            self.assertEqual(befores(line, colours), some, line)
            self.assertEqual(least_before(line, colours), some[0] if some else None, line)
            for many in range(most + 1):
                self.assertEqual(past(line, colours, many), len(pasts[many].get(line[0], [])), (line, many))

    def test_small_rows(self):
        for frame in frames_of((1, 2, 3, 4), False):
            for colours in (1, 2, 3):
                self.assert_pasts(frame, colours)
        for frame in frames_of((5, 6, 7), False, 1):
            self.assert_pasts(frame, 2)
        self.assert_pasts((5, (), False), 3)

    def test_small_rings(self):
        for frame in frames_of((3, 4), True):
            for colours in (1, 2, 3):
                self.assert_pasts(frame, colours)
        for frame in frames_of((5, 6), True, 2):
            self.assert_pasts(frame, 2)
        self.assert_pasts((7, (), True), 2)
        self.assert_pasts((8, (), True), 2)
        self.assert_pasts((5, (), True), 3)
        self.assert_pasts((5, (2,), True), 3)

    def test_flat_rings_of_many_colours(self):
        for many, colours in ((4, 6), (5, 5), (6, 4)):
            pasts = pasts_of((many, (), True), colours, 3)
            for own in range(colours):
                line = ((own,) * many, (), True)
                some = pasts[1][line[0]]
                self.assertEqual(before_count(line, colours), len(some))
                self.assertEqual(befores(line, colours), some)
                self.assertEqual(least_before(line, colours), some[0])
                self.assertEqual(past(line, colours, 3), len(pasts[3][line[0]]))

    def test_ten_colours(self):
        self.assertEqual(before_count(((9, 9, 9), (), False), 10), 10)
        self.assertEqual(befores(((9, 9, 9), (), False), 10), [(9, own, 9) for own in range(10)])
        self.assertEqual(least_before(((9, 9, 9), (), False), 10), (9, 0, 9))
        self.assertEqual(past(((9, 9, 9), (), False), 10, 12), 10)
        self.assertEqual(before_count(((9, 9, 9), (1,), False), 10), 1)
        self.assertEqual(least_before(((9, 9, 9), (1,), False), 10), (9, 9, 9))

    def test_colours_beyond_those_that_are_meant(self):
        for line in (((0, 2, 0), (1,), False), ((2, 2, 2), (), False), ((2, 0, 2, 0), (), True), ((0, 0, 2), (), True)):
            self.assertEqual(before_count(line, 2), 0)
            self.assertEqual(befores(line, 2), [])
            self.assertIsNone(least_before(line, 2))
            for many in (0, 1, 2, 12):
                self.assertEqual(past(line, 2, many), 0)
            self.assertEqual(past(line, 3, 0), 1)

    def test_lines_that_swing(self):
        self.assertEqual(befores(SWINGING, 2), [(1, 0, 1, 0)])
        self.assertEqual(least_before(SWINGING, 10), (1, 0, 1, 0))
        self.assertEqual(before_count(SWINGING, 10), 1)
        long = ((3, 8) * 20, (), True)
        self.assertEqual(befores(long, 9), [(8, 3) * 20])
        for many in range(13):
            self.assertEqual(past(long, 9, many), 1)
            self.assertEqual(past(long, 8, many), 0)

    def test_one_colour(self):
        for line in (((0,), (), False), ((0,) * 40, (), False), ((0,) * 3, (), True), ((0,) * 40, (5,), True)):
            self.assertEqual(before_count(line, 1), 1)
            self.assertEqual(befores(line, 1), [line[0]])
            self.assertEqual(past(line, 1, 12), 1)

    def test_long_lines(self):
        for cells in ((0,) * 40, (0, 0, 0, 1, 1, 1, 1, 0) * 5, (0,) * 20 + (1,) * 20, (0, 1, 0, 0, 0) * 8,
                      (2, 2, 2, 2, 0, 1, 1, 0) * 5, (0, 1) * 18 + (0, 0, 0, 0), (0, 1, 2, 2) * 10):
            for held in ((), (0,), (7, 8, 20), tuple(range(0, 40, 3)), tuple(range(40))):
                for is_ring in (False, True):
                    line = (cells, held, is_ring)
                    self.assertEqual(before_count(line, 3), count_by_pairs(line, 3), line)
        line = ((0,) * 40, (), True)
        self.assertEqual(before_count(line, 10), count_by_pairs(line, 10))
        self.assertRaises(TooMany, befores, line, 10)

    def test_all_held(self):
        line = ((0, 1) * 20, tuple(range(40)), True)
        self.assertEqual(befores(line, 10), [line[0]])
        self.assertEqual(past(line, 10, 12), 1)

    def test_least_before_of_long_lines(self):
        self.assertEqual(least_before(((1,) * 40, (), True), 2), (0, 1, 1) * 13 + (1,))
        self.assertEqual(least_before(((1,) * 40, (), False), 2), (1, 0, 1) * 13 + (1,))
        self.assertEqual(least_before(((0,) * 40, (), True), 10), (0,) * 40)
        self.assertEqual(least_before(((9,) * 40, (), True), 10), (0, 9, 1, 9) * 10)

    def test_least_before_is_the_first_of_befores(self):
        cells = (2, 2, 2, 1, 1, 1, 0, 0, 0, 0, 1, 1)
        for by in range(12):
            for held in ((), (4,), (0, 8)):
                line = turned_line((cells, held, True), by)
                some = befores(line, 3)
                self.assertEqual(least_before(line, 3), some[0])
                self.assertEqual(len(some), before_count(line, 3))
                self.assertEqual(some, sorted(some))
                for colours in some:
                    self.assertEqual(plain_step((colours,) + line[1:]), line)

    def test_just_as_many_as_can_be(self):
        self.assertEqual(before_count(JUST_2000, 5), 2000)
        some = befores(JUST_2000, 5)
        self.assertEqual(len(some), 2000)
        self.assertEqual(some, sorted(some))
        self.assertEqual(some[0], least_before(JUST_2000, 5))
        self.assertEqual(len(set(some)), 2000)
        self.assertEqual(past(JUST_2000, 5, 1), 2000)
        self.assertEqual(past(JUST_2000, 5, 2), sum(before_count((one,) + JUST_2000[1:], 5) for one in some))
        self.assertEqual(past(JUST_2000, 5, 12), 2000)

    def test_too_many(self):
        # Eleven cells that may have either of two colours.
        line = ((0,) * 23, tuple(range(0, 23, 2)), False)
        self.assertEqual(before_count(line, 2), 2048)
        self.assertEqual(past(line, 2, 1), 2048)
        self.assertEqual(least_before(line, 2), (0,) * 23)
        for call in (lambda: befores(line, 2), lambda: past(line, 2, 2), lambda: past(line, 2, 12)):
            with self.assertRaises(TooMany) as caught:
                call()
            self.assertEqual(caught.exception.most, 2000)

    def test_too_many_for_fewer_steps_only(self):
        # Nothing leads to it in two steps, but much in one; a single cell less that is free, and that is not too much.
        line = ((0, 0, 1, 0, 0) + (0,) * 22, tuple(range(4, 27, 2)), False)
        self.assertEqual(past(line, 2, 1), 2048)
        self.assertRaises(TooMany, past, line, 2, 2)
        self.assertRaises(TooMany, past, line, 2, 12)
        less = (line[0], (4, 5) + line[1][1:], False)
        self.assertEqual([past(less, 2, many) for many in (0, 1, 2, 3, 12)], [1, 1024, 0, 0, 0])

    def test_lines_without_a_before(self):
        for line in (((0, 1, 0), (), False), ((0, 1, 0) + (0,) * 37, (2, 3), True), ((0, 0, 1, 0), (), True)):
            self.assertEqual(before_count(line, 2), 0)
            self.assertEqual(befores(line, 2), [])
            self.assertIsNone(least_before(line, 2))
            self.assertEqual([past(line, 2, many) for many in (0, 1, 2, 12)], [1, 0, 0, 0])

    def test_pasts_are_counted_step_by_step(self):
        for line, colours in [(((0,) * 14, (), False), 2), (((0, 0, 0, 1, 1, 1) * 2, (), True), 3),
                              (((0, 0, 0, 1, 0, 1, 1, 1, 2, 2), (), False), 3), (((1,) * 12, (), True), 2)]:
            level = [line[0]]
            for many in range(13):
                self.assertEqual(past(line, colours, many), len(level), (line, many))
                self.assertLessEqual(len(level), 2000)
                level = [one for cells in level for one in befores((cells,) + line[1:], colours)]
                for cells in level:
                    self.assertEqual(after((cells,) + line[1:], many + 1), line)

    def test_lists_are_new(self):
        line = ((0, 0, 0), (), False)
        first = befores(line, 2)
        first.append(None)
        self.assertEqual(befores(line, 2), [(0, 0, 0), (0, 1, 0)])

    def test_bad_lines(self):
        for value, index in BAD_LINES:
            for function, more in ((before_count, (2,)), (least_before, (2,)), (befores, (2,)), (past, (2, 1))):
                with self.assertRaises(BadLine) as caught:
                    function(value, *more)
                self.assertEqual(caught.exception.index, index, value)

    def test_bad_counts_and_times(self):
        for line in (((0, 0, 0), (), False), ((2, 2, 2), (), False), SWINGING, JUST_2000):
            for colours in no_integer_within(1, 10):
                for function in (before_count, least_before, befores):
                    self.assertRaises(BadCount, function, line, colours)
                self.assertRaises(BadCount, past, line, colours, 1)
                self.assertRaises(BadCount, past, line, colours, 13)
            for many in no_integer_within(0, 12):
                self.assertRaises(BadTime, past, line, 2, many)

    def test_order_of_errors(self):
        many = ((0,) * 23, tuple(range(0, 23, 2)), False)
        self.assertRaises(BadLine, past, (), 0, 13)
        self.assertRaises(BadLine, befores, ((0, 10), (), False), 11)
        self.assertRaises(BadCount, befores, many, 11)
        self.assertRaises(BadCount, past, many, 11, 13)
        self.assertRaises(BadTime, past, many, 2, 13)
