"""Promise 14: two hands."""

import unittest

from flankturns.errors import BadFlag, BadLine, TooMany
from flankturns.hands import last_hand, turns_value, winning_cells, worth
from flankturns.lines import turned
from flankturns.singles import ends_by_turns
from tests.tools import BAD_LINES, GOOD_LINE, NO_FLAGS, SWINGING, in_turn, plain_ready, plain_turned, sample_lines


def plain_worth(line, known):
    """The worth of a line, by those of all lines one turn further."""
    if line not in known:
        further = [plain_worth(plain_turned(line, cell), known) for cell in plain_ready(line)]
        known[line] = min(number for number in range(len(further) + 1) if number not in further)
    return known[line]


def plain_value(line, is_more, known):
    """The number of turns if both hands do their best."""
    key = (line, is_more)
    if key not in known:
        further = [plain_value(plain_turned(line, cell), not is_more, known) for cell in plain_ready(line)]
        known[key] = 1 + (max(further) if is_more else min(further)) if further else 0
    return known[key]


def row_worths(most):
    """The worths of stretches by their numbers of cells inside, by parting these in two."""
    worths = []
    for many in range(most + 1):
        found = set()
        for place in range(many):
            found.add(worths[max(place - 1, 0)] ^ worths[max(many - place - 2, 0)])
        worths.append(min(number for number in range(len(found) + 1) if number not in found))
    return worths


class TestHands(unittest.TestCase):
    def test_all_turns(self):
        for line in sample_lines():
            known = {}
            wanted = plain_worth(line, known)
            self.assertEqual(worth(line), wanted, line)
            self.assertIs(last_hand(line), wanted != 0, line)
            winning = tuple(cell for cell in plain_ready(line) if plain_worth(plain_turned(line, cell), known) == 0)
            self.assertEqual(winning_cells(line), winning, line)

    def test_turns_value_over_all_turns(self):
        for line in sample_lines()[::2] + [in_turn((13,)), in_turn((13, 6)), in_turn((12,), True)]:
            known = {}
            for is_more in (True, False):
                self.assertEqual(turns_value(line, is_more), plain_value(line, is_more, known), (line, is_more))

    def test_long_rows(self):
        worths = row_worths(80)
        for many in range(2, 41):
            self.assertEqual(worth(in_turn((many,))), worths[many - 2])
        # Worths come round by 34 for great lengths.
        self.assertEqual(row_worths(160)[53:120], row_worths(160)[87:154])
        self.assertEqual([worths[many] for many in (0, 1, 2, 3, 4, 5, 6, 7, 8, 9)], [0, 1, 1, 2, 0, 3, 1, 1, 0, 3])
        self.assertEqual(worth(in_turn((40, 12, 25))), worths[11] ^ worths[12] ^ worths[13])
        self.assertEqual(worth(in_turn((40, 12), True)), worths[39])

    def test_long_rings_that_swing(self):
        worths = row_worths(40)
        for many in range(4, 41, 2):
            ring = in_turn((many,), True)
            self.assertEqual(worth(ring), 1 if worths[many - 3] == 0 else 0)
            self.assertEqual(winning_cells(ring), tuple(range(many)) if worths[many - 3] == 0 else ())

    def test_winning_cells_of_long_lines(self):
        for line in (in_turn((40,)), in_turn((39, 8)), in_turn((40, 3, 21), True), in_turn((40, 0), True)):
            winning = winning_cells(line)
            self.assertIs(last_hand(line), winning != ())
            for cell in plain_ready(line):
                self.assertIs(last_hand(turned(line, cell)), cell not in winning)

    def test_lines_without_a_turn(self):
        for line in (((5,), (), False), ((5, 6), (), False), ((0, 1, 0), (1,), False), ((0, 1, 2), (), True),
                     ((0,) * 40, (), True), ((0, 1) * 20, tuple(range(40)), True)):
            self.assertEqual([worth(line), last_hand(line), winning_cells(line)], [0, False, ()])
            self.assertEqual([turns_value(line, True), turns_value(line, False)], [0, 0])

    def test_sixteen_ready_cells(self):
        for line in (in_turn((18,)), in_turn((16,), True), in_turn((20, 5, 11)), in_turn((17, 0), True)):
            numbers = ends_by_turns(line)
            possible = [many for many, number in enumerate(numbers) if number]
            for is_more in (True, False):
                self.assertIn(turns_value(line, is_more), possible)
        apart = ((0, 1) * 16 + (0,), tuple(range(2, 32, 2)), False)
        self.assertEqual([turns_value(apart, True), turns_value(apart, False)], [16, 16])
        # The first of three cells in a row decides between one turn and two.
        three = in_turn((5,))
        self.assertEqual([turns_value(three, True), turns_value(three, False)], [2, 1])
        self.assertEqual([turns_value(SWINGING, True), turns_value(SWINGING, False)], [2, 2])

    def test_seventeen_ready_cells(self):
        for line in (in_turn((19,)), in_turn((18,), True), in_turn((40,), True), in_turn((40, 17))):
            for is_more in (True, False):
                with self.assertRaises(TooMany) as caught:
                    turns_value(line, is_more)
                self.assertEqual(caught.exception.most, 16)
            for value in NO_FLAGS:
                self.assertRaises(BadFlag, turns_value, line, value)

    def test_bad_lines(self):
        for value, index in BAD_LINES:
            for function, more in ((worth, ()), (last_hand, ()), (winning_cells, ()), (turns_value, (True,)),
                                   (turns_value, (None,)), (turns_value, (0,))):
                with self.assertRaises(BadLine) as caught:
                    function(value, *more)
                self.assertEqual(caught.exception.index, index, value)

    def test_bad_flags(self):
        for line in (GOOD_LINE, SWINGING, ((5,), (), False)):
            for value in NO_FLAGS:
                self.assertRaises(BadFlag, turns_value, line, value)
