"""Promise 13: chances, each turn being that of one of the ready cells, all equally likely."""

import unittest
from fractions import Fraction
from math import comb, factorial

from flankturns.chances import end_chance, first_chance, mean_turns, turn_chance, turns_chances
from flankturns.errors import BadCell, BadCells, BadLine, TooMany
from flankturns.singles import ends, most_turns
from tests.tools import (ANYTHING, BAD_CELLS, BAD_LINES, GOOD_LINE, SWINGING, in_turn, is_still, no_integer_within,
                         plain_ready, plain_turned, ratio_of, sample_lines)


def levels_by_chance(line):
    """For 0, 1, .. turns a dict from the colours that can come to the chances that they do."""
    level = {line[0]: Fraction(1)}
    found = []
    while level:
        found.append(level)
        behind = {}
        for cells, chance in level.items():
            one = (cells,) + line[1:]
            ready = plain_ready(one)
            for cell in ready:
                turned = plain_turned(one, cell)[0]
                behind[turned] = behind.get(turned, 0) + chance / len(ready)
        level = behind
    return found


def first_by_chance(line, levels, one, other):
    """The chance that a cell turns while another one has not, summed over all colours from which it can."""
    total = Fraction(0)
    for level in levels:
        for cells, chance in level.items():
            ready = plain_ready((cells,) + line[1:])
            if one in ready and cells[other] == line[0][other]:
                total += chance / len(ready)
    return total


class TestChances(unittest.TestCase):
    def test_all_turns(self):
        for line in sample_lines():
            levels = levels_by_chance(line)
            ended = [{cells: chance for cells, chance in level.items() if is_still(line, cells)} for level in levels]
            chances = [sum(level.values(), Fraction(0)) for level in ended]
            self.assertEqual(turns_chances(line), tuple(ratio_of(chance) for chance in chances), line)
            mean = sum((many * chance for many, chance in enumerate(chances)), Fraction(0))
            self.assertEqual(mean_turns(line), ratio_of(mean), line)
            every = {cells: chance for level in ended for cells, chance in level.items()}
            for cell, own in enumerate(line[0]):
                chance = sum((chance for cells, chance in every.items() if cells[cell] != own), Fraction(0))
                self.assertEqual(turn_chance(line, cell), ratio_of(chance), (line, cell))
            for cells, chance in every.items():
                self.assertEqual(end_chance(line, cells), ratio_of(chance), (line, cells))

    def test_first_chance_over_all_turns(self):
        for line in sample_lines()[::9] + [in_turn((11, 4)), in_turn((12,), True), in_turn((11, 3, 5)),
                                           ((0, 1, 0, 2, 0, 2, 3, 2, 3), (), False)]:
            levels = levels_by_chance(line)
            for one in range(len(line[0])):
                for other in range(len(line[0])):
                    if one != other:
                        wanted = ratio_of(first_by_chance(line, levels, one, other))
                        self.assertEqual(first_chance(line, one, other), wanted, (line, one, other))

    def test_colours_that_are_no_end(self):
        for cells in ((0, 1, 0, 1, 0), (0, 0, 0, 1, 0), (0, 2, 2, 2, 0), (1, 1, 1, 1, 1), (0, 0, 1, 0, 0)):
            self.assertEqual(end_chance(GOOD_LINE, cells), (0, 1))
        self.assertEqual(end_chance(SWINGING, (0, 1, 0, 1)), (0, 1))
        self.assertEqual(end_chance(SWINGING, (0, 0, 0, 0)), (1, 2))

    def test_lines_without_a_turn(self):
        for line in (((5,), (), False), ((5, 6), (), False), ((0, 1, 0), (1,), False), ((0, 1, 2), (), True),
                     ((0,) * 40, (), True), ((0, 1) * 20, tuple(range(40)), True)):
            self.assertEqual([mean_turns(line), turns_chances(line), turn_chance(line, 0)], [(0, 1), ((1, 1),), (0, 1)])
            self.assertEqual(end_chance(line, line[0]), (1, 1))
            if len(line[0]) > 1:
                self.assertEqual(first_chance(line, 0, 1), (0, 1))

    def test_long_lines(self):
        for line in (in_turn((40,)), in_turn((40,), True), in_turn((40, 0), True), in_turn((40, 13, 20)),
                     in_turn((39,), True), in_turn((40, 3, 9, 17, 22, 31), True)):
            chances = [Fraction(*chance) for chance in turns_chances(line)]
            self.assertEqual(len(chances), most_turns(line) + 1)
            self.assertEqual(sum(chances), 1)
            mean = sum(many * chance for many, chance in enumerate(chances))
            self.assertEqual(mean_turns(line), ratio_of(mean))
            turns = [Fraction(*turn_chance(line, cell)) for cell in range(len(line[0]))]
            self.assertEqual(sum(turns), mean)

    def test_chances_by_orders_of_cells(self):
        # A cell turns if, by turns, its neighbours on each side come ahead of it, behind their next ones, and so on.
        line = in_turn((40,))
        for cell in (1, 2, 7, 20, 38):
            chance = sum(Fraction((-1) ** (a + b) * comb(a + b, a), factorial(a + b + 1))
                         for a in range(cell) for b in range(39 - cell))
            self.assertEqual(turn_chance(line, cell), ratio_of(chance))
        self.assertEqual(turn_chance(line, 0), (0, 1))
        self.assertEqual(turn_chance(line, 39), (0, 1))

    def test_ends_of_longer_lines(self):
        for line in (in_turn((22,)), in_turn((20,), True), in_turn((24, 7, 12))):
            chances = [Fraction(*end_chance(line, cells)) for cells in ends(line)]
            self.assertEqual(sum(chances), 1)
            by_turns = [Fraction(0)] * (most_turns(line) + 1)
            for cells, chance in zip(ends(line), chances):
                by_turns[len([1 for one, other in zip(cells, line[0]) if one != other])] += chance
            self.assertEqual(turns_chances(line), tuple(ratio_of(chance) for chance in by_turns))

    def test_end_of_a_long_row(self):
        # Every other cell turns if no cell between them comes ahead of both its neighbours; some that do, one behind
        # the other, are as likely as the terms of the tangent tell.
        tangent = [Fraction(1)]
        for at in range(1, 19):
            tangent.append(sum(tangent[k] * tangent[at - 1 - k] for k in range(at)) / (2 * at + 1))
        chances = [Fraction(1)]
        for many in range(1, 20):
            chances.append(sum((-1) ** k * tangent[k] * chances[many - 1 - k] for k in range(many)))
        for many in range(1, 20):
            line = in_turn((2 * many + 1,))
            self.assertEqual(end_chance(line, (0,) * (2 * many + 1)), ratio_of(chances[many]))

    def test_sixteen_ready_cells(self):
        apart = ((0, 1) * 16 + (0,), tuple(range(2, 32, 2)), False)
        self.assertEqual(first_chance(apart, 1, 31), (1, 2))
        row = in_turn((18,))
        for one, other in ((1, 2), (1, 16), (8, 9), (3, 12)):
            chance = Fraction(*first_chance(row, one, other))
            self.assertTrue(0 < chance <= Fraction(*turn_chance(row, one)))
        # Of two neighbours one alone can turn.
        self.assertEqual(first_chance(row, 8, 9), turn_chance(row, 8))
        self.assertEqual(first_chance(row, 5, 0), turn_chance(row, 5))
        self.assertEqual(first_chance(row, 0, 5), (0, 1))
        self.assertEqual(first_chance(in_turn((16,), True), 0, 1), turn_chance(in_turn((16,), True), 0))
        parted = in_turn((19, 8))
        for one, other in ((1, 17), (4, 12), (7, 9)):
            chances = [1 - Fraction(*turn_chance(parted, cell)) for cell in (one, other)]
            both = Fraction(*first_chance(parted, one, other)) + Fraction(*first_chance(parted, other, one))
            self.assertEqual(both, 1 - chances[0] * chances[1])

    def test_seventeen_ready_cells(self):
        for line in (in_turn((19,)), in_turn((18,), True), in_turn((40,), True), in_turn((40, 17))):
            for one, other in ((3, 4), (0, 1), (1, 0), (17, 2)):
                with self.assertRaises(TooMany) as caught:
                    first_chance(line, one, other)
                self.assertEqual(caught.exception.most, 16)
            self.assertRaises(BadCell, first_chance, line, 3, 3)
            self.assertRaises(BadCell, first_chance, line, 40, 3)
            self.assertRaises(BadCell, first_chance, line, 3, -1)

    def test_bad_lines(self):
        for value, index in BAD_LINES:
            for function, more in ((turn_chance, (0,)), (mean_turns, ()), (turns_chances, ()), (end_chance, ((0,),)),
                                   (first_chance, (0, 1)), (turn_chance, (None,)), (end_chance, (None,)),
                                   (first_chance, (0, 0)), (first_chance, (None, []))):
                with self.assertRaises(BadLine) as caught:
                    function(value, *more)
                self.assertEqual(caught.exception.index, index, value)

    def test_bad_cells(self):
        for line in (GOOD_LINE, SWINGING):
            for cell in no_integer_within(0, len(line[0]) - 1):
                self.assertRaises(BadCell, turn_chance, line, cell)
                self.assertRaises(BadCell, first_chance, line, cell, 1)
                self.assertRaises(BadCell, first_chance, line, 1, cell)
                self.assertRaises(BadCell, first_chance, line, cell, cell)
            for cell in range(len(line[0])):
                self.assertRaises(BadCell, first_chance, line, cell, cell)
        for value in BAD_CELLS:
            self.assertRaises(BadCells, end_chance, GOOD_LINE, value)
        for value in ANYTHING:
            self.assertRaises(BadCells, end_chance, SWINGING, value)
