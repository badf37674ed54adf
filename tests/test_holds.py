"""Promise 19: holds."""

import itertools
import random
import unittest

from flankturns.errors import BadCell, BadLine, BadWish, Swings, TooMany
from flankturns.holds import fewest_holds, held_rest, hold_effects, shows_holds
from flankturns.steps import rest
from tests.tools import (ANYTHING, BAD_HELD, BAD_LINES, BAD_WISHES, GOOD_LINE, SWINGING, held_too, held_tuples, in_turn,
                         is_as_wished, plain_rest, random_line, random_wish, sample_lines)


def all_holds(line):
    """For all sets of cells that are not held, fewer first: the set, and the colours at rest with them held."""
    more = [cell for cell in range(len(line[0])) if cell not in line[1]]
    for number in range(len(more) + 1):
        for cells in itertools.combinations(more, number):
            yield cells, plain_rest(held_too(line, cells))


def some_lines():
    """Lines of which several cells turn, and others."""
    luck = random.Random(190)
    found = sample_lines()[::40] + [random_line(luck, 7, 3) for _ in range(60)]
    for many in (4, 5, 6, 7, 8):
        found += [in_turn((many,)), in_turn((many,), True), in_turn((many, 2)), in_turn((many, 3), True)]
    return found


class TestHolds(unittest.TestCase):
    def test_all_holds(self):
        luck = random.Random(191)
        for line in some_lines():
            holds = list(all_holds(line))
            many = len(line[0])
            wishes = [random_wish(luck, many, 2), random_wish(luck, many, 3), line[0]]
            wishes.append(tuple(colour if luck.random() < 0.5 else None for colour in luck.choice(holds)[1] or line[0]))
            for wish in wishes:
                good = [cells for cells, resting in holds if resting is not None and is_as_wished(resting, wish)]
                wanted = (len(good[0]), good[0]) if good else None
                self.assertEqual(fewest_holds(line, wish), wanted, (line, wish))
                for cells, resting in luck.sample(holds, min(len(holds), 9)) + [(cells, None) for cells in good[:9]]:
                    right = bool(good) and cells in good and len(cells) == wanted[0]
                    self.assertIs(shows_holds(line, wish, (len(cells), cells)), right, (line, wish, cells))
                self.assertIs(shows_holds(line, wish, None), not good)

    def test_shows_holds_of_any_value(self):
        wish = (0, 1, 1, 1, 0)
        self.assertIs(shows_holds(GOOD_LINE, wish, (2, (1, 3))), True)
        wrong = ANYTHING + [(2, value) for value in ANYTHING] + [
            [2, (1, 3)], (2, [1, 3]), (2, (1, 3), 0), (2, (3, 1)), (2, (1, 1, 3)), (3, (1, 2, 3)), (2, (1, 2)),
            (2, (True, 3)), (2, ("1", 3)), ("2", (1, 3)), (None, (1, 3)), ((1, 3), 2), (2, (1, 3, 4)), (1, (1, 3)),
            (2, (1, 5)), (2, (-4, 3)), {2: (1, 3)}, (0, ()), (2, (0, 1, 3))]
        for value in wrong:
            self.assertIs(shows_holds(GOOD_LINE, wish, value), False, value)
        one = ((0, 1, 0), (), False)
        self.assertIs(shows_holds(one, (0, 1, 0), (1, (1,))), True)
        self.assertIs(shows_holds(one, (0, 1, 0), (True, (1,))), False)
        self.assertIs(shows_holds(one, (0, 0, 0), (0, ())), True)
        self.assertIs(shows_holds(one, (0, 0, 0), (False, ())), False)
        for value in wrong + ANYTHING:
            self.assertIs(shows_holds(one, (1, None, None), value), value is None)

    def test_lines_that_swing(self):
        self.assertEqual(fewest_holds(SWINGING, (None,) * 4), (1, (0,)))
        self.assertEqual(fewest_holds(SWINGING, (1,) * 4), (1, (1,)))
        self.assertEqual(fewest_holds(SWINGING, (0, 1, 0, 1)), (4, (0, 1, 2, 3)))
        self.assertEqual(fewest_holds(in_turn((12,), True), (0,) * 12), (1, (0,)))
        self.assertIs(shows_holds(SWINGING, (None,) * 4, (1, (3,))), True)
        self.assertIs(shows_holds(SWINGING, (None,) * 4, (0, ())), False)
        self.assertEqual(held_rest(SWINGING, (1,)), ((1, 1, 1, 1), (1,), True))

    def test_twelve_ready_cells(self):
        row = in_turn((14,))
        self.assertEqual(fewest_holds(row, rest(row)[0]), (0, ()))
        self.assertEqual(fewest_holds(row, row[0]), (12, tuple(range(1, 13))))
        self.assertEqual(fewest_holds(row, (0,) + (1,) * 13), (1, (1,)))
        self.assertIsNone(fewest_holds(row, (1,) * 14))
        apart = ((0, 1) * 12 + (0,), tuple(range(2, 24, 2)), False)
        self.assertEqual(fewest_holds(apart, (None,) * 23 + (1, None)), (1, (23,)))

    def test_thirteen_ready_cells(self):
        for line in (in_turn((15,)), in_turn((14,), True), in_turn((40,), True), in_turn((40, 13, 14))):
            many = len(line[0])
            for wish in ((None,) * many, (9,) * many, (1,) * many):
                for value in (None, (0, ()), "", []):
                    for function, more in ((fewest_holds, ()), (shows_holds, (value,))):
                        with self.assertRaises(TooMany) as caught:
                            function(line, wish, *more)
                        self.assertEqual(caught.exception.most, 12)
            for value in ANYTHING:
                self.assertRaises(BadWish, fewest_holds, line, value)
                self.assertRaises(BadWish, shows_holds, line, value, None)

    def test_held_rest(self):
        for line in some_lines():
            for cells in held_tuples(len(line[0]), 3):
                held = held_too(line, cells)
                resting = plain_rest(held)
                if resting is None:
                    self.assertRaises(Swings, held_rest, line, cells)
                else:
                    self.assertEqual(held_rest(line, cells), (resting,) + held[1:], (line, cells))
        self.assertEqual(held_rest(((0, 1, 0, 1, 0), (1,), False), (0, 1, 3)), ((0, 1, 1, 1, 0), (0, 1, 3), False))
        row = in_turn((40, 7))
        self.assertEqual(held_rest(row, tuple(range(40))), (row[0], tuple(range(40)), False))
        self.assertEqual(held_rest(row, ()), rest(row))

    def test_hold_effects(self):
        for line in some_lines():
            resting = plain_rest(line)
            if resting is None:
                self.assertRaises(Swings, hold_effects, line)
                continue
            wanted = []
            for cell in range(len(line[0])):
                other = plain_rest(held_too(line, (cell,)))
                wanted.append(len([1 for one, two in zip(resting, other) if one != two]))
            self.assertEqual(hold_effects(line), tuple(wanted), line)
        self.assertEqual(hold_effects(((0, 1) * 20, tuple(range(40)), True)), (0,) * 40)
        # A cell at an odd place that is held makes all cells half way to both ends rest as it does.
        self.assertEqual(hold_effects(in_turn((9,))), (0, 4, 0, 4, 0, 4, 0, 4, 0))
        self.assertEqual(hold_effects(in_turn((39,))), (0, 19) * 19 + (0,))

    def test_bad_lines(self):
        for value, index in BAD_LINES:
            for function, more in ((fewest_holds, ((None,) * 5,)), (shows_holds, ((None,) * 5, None)),
                                   (held_rest, ((),)), (hold_effects, ()), (fewest_holds, (None,)),
                                   (shows_holds, ([], {})), (held_rest, (None,))):
                with self.assertRaises(BadLine) as caught:
                    function(value, *more)
                self.assertEqual(caught.exception.index, index, value)

    def test_bad_wishes(self):
        for value in BAD_WISHES:
            self.assertRaises(BadWish, fewest_holds, GOOD_LINE, value)
            self.assertRaises(BadWish, shows_holds, GOOD_LINE, value, None)
            self.assertRaises(BadWish, shows_holds, GOOD_LINE, value, (2, (1, 3)))

    def test_bad_cells(self):
        for value in BAD_HELD:
            self.assertRaises(BadCell, held_rest, GOOD_LINE, value)
        # Swings comes behind all others.
        for value in BAD_HELD + [(4,), (0, 4)]:
            self.assertRaises(BadCell, held_rest, SWINGING, value)
        self.assertRaises(Swings, held_rest, SWINGING, ())
