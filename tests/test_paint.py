"""Promises 15 and 16: paint."""

import itertools
import random
import unittest

from flankturns.errors import BadCount, BadLine, BadPrices, BadWish, Swings
from flankturns.leaders import least_leader
from flankturns.paint import cheapest_paint, fewest_painted, kept_cells, one_colour, shows_paint
from flankturns.steps import rest
from tests.tools import (ANYTHING, BAD_CELLS, BAD_LINES, BAD_PRICES, BAD_WISHES, GOOD_LINE, SWINGING, frames_of,
                         in_turn, is_as_wished, lines_of, no_integer_within, plain_rest, random_line, random_wish)

NONE = (None,) * 5
FREE = (0,) * 5


class Paintings:
    """All paintings of lines, each one told by its line at rest."""

    def __init__(self):
        self.rests = {}

    def rest_of(self, line):
        """The colours of a line at rest, None if it never is."""
        if line not in self.rests:
            self.rests[line] = plain_rest(line)
        return self.rests[line]

    def of(self, line, colours):
        """For all paintings with some colours: the colours behind them, and those at rest."""
        choices = [sorted(set(range(colours)) | {own}) for own in line[0]]
        found = [(cells, self.rest_of((cells,) + line[1:])) for cells in itertools.product(*choices)]
        return [(cells, resting) for cells, resting in found if resting is not None]


def cost_of(line, prices, cells):
    """What it costs to paint a line with some colours."""
    return sum(price for price, one, other in zip(prices, cells, line[0]) if one != other)


def plain_one_colour(line, colour):
    """The least number of painted cells with which a line rests with a colour alone, by its runs of other colours."""
    cells, held, is_ring = line
    many = len(cells)
    free = [cell not in held and (is_ring or 0 < cell < many - 1) for cell in range(many)]
    other = [one != colour for one in cells]
    if not all(free) or not all(other):
        # No two neighbours may keep another colour, and no cell that is held.
        start = [cell for cell in range(many) if not free[cell] or not other[cell]][0]
        painted = run = 0
        for cell in list(range(start, many)) + list(range(start)) + [start]:
            if other[cell] and free[cell]:
                run += 1
                continue
            painted += run // 2 + (1 if other[cell] and cell != start else 0)
            run = 0
        painted += 1 if other[start] else 0
    else:
        painted = (many + 1) // 2
    return painted


class TestPaint(unittest.TestCase):
    def assert_paint(self, paintings, line, wish, prices, colours):
        found = [(cost_of(line, prices, cells), cells) for cells, resting in paintings.of(line, colours)
                 if is_as_wished(resting, wish)]
        best = min(found, default=None)
        self.assertEqual(cheapest_paint(line, wish, prices, colours), best, (line, wish, prices, colours))
        painted = [cost_of(line, (1,) * len(wish), cells) for _, cells in found]
        self.assertEqual(fewest_painted(line, wish, colours), min(painted, default=None), (line, wish, colours))
        return found

    def test_all_paintings(self):
        luck = random.Random(15)
        paintings = Paintings()
        for _ in range(1500):
            line = random_line(luck, 6, luck.choice([2, 3]))
            many = len(line[0])
            wish = random_wish(luck, many, 3)
            prices = tuple(luck.choice([0, 0, 1, 2, 5, 1000]) for _ in range(many))
            self.assert_paint(paintings, line, wish, prices, luck.randint(1, 3))

    def test_small_lines_with_all_wishes(self):
        paintings = Paintings()
        for frame in frames_of((1, 2, 3), False) + frames_of((3, 4), True, 1):
            many = frame[0]
            for line in lines_of(frame, 2)[::3]:
                for wish in itertools.product((None, 0, 1), repeat=many):
                    for prices in ((0,) * many, (1,) * many, (3, 1, 2, 2)[:many]):
                        self.assert_paint(paintings, line, wish, prices, 2)

    def test_shows_paint(self):
        luck = random.Random(16)
        paintings = Paintings()
        for _ in range(60):
            line = random_line(luck, 4, 3)
            many = len(line[0])
            wish = random_wish(luck, many, 3)
            prices = tuple(luck.choice([0, 1, 1, 2]) for _ in range(many))
            colours = luck.randint(1, 3)
            found = self.assert_paint(paintings, line, wish, prices, colours)
            least = min(found, default=(None,))[0]
            for cells in itertools.product(range(4), repeat=many):
                cost = cost_of(line, prices, cells)
                right = (cost, cells) in found and cost == least
                self.assertIs(shows_paint(line, wish, prices, colours, (cost, cells)), right, (line, wish, cells))
                self.assertIs(shows_paint(line, wish, prices, colours, (cost + 1, cells)), False)
            self.assertIs(shows_paint(line, wish, prices, colours, None), not found)

    def test_shows_paint_of_any_value(self):
        line = ((0, 1, 1, 0, 1), (), False)
        arguments = (line, (0,) * 5, (9, 2, 3, 1, 1), 2)
        right = [(3, (0, 0, 1, 0, 0))]
        for value in right:
            self.assertIs(shows_paint(*arguments, value), True)
        wrong = ANYTHING + BAD_CELLS + [(3, value) for value in ANYTHING + BAD_CELLS] + [
            [3, (0, 0, 1, 0, 0)], (3, [0, 0, 1, 0, 0]), (3, (0, 0, 1, 0, 0), 0), (4, (0, 1, 0, 0, 0)),
            (True, (0, 0, 1, 0, 0)), ("3", (0, 0, 1, 0, 0)), (None, (0, 0, 1, 0, 0)), ((0, 0, 1, 0, 0), 3),
            (3, (False, 0, 1, 0, 0)), (3, (0, 0, True, 0, 0)), {3: (0, 0, 1, 0, 0)}, (3, (0, 0, 1, 0, 1)),
            (5, (0, 0, 0, 0, 0)), (0, line[0]), (3, (0, 0, 1, 0, 10))]
        for value in wrong:
            self.assertIs(shows_paint(*arguments, value), False, value)
        free = (line, NONE, FREE, 2)
        self.assertIs(shows_paint(*free, (0, (1, 1, 0, 0, 1))), True)
        self.assertIs(shows_paint(*free, (False, (1, 1, 0, 0, 1))), False)
        self.assertIs(shows_paint(*free, (0, (1, 1, 0, 0, 2))), False)
        # A colour that is not meant may stay where it is, and nowhere else.
        high = ((7, 7, 0), (), False)
        self.assertIs(shows_paint(high, (None,) * 3, (0,) * 3, 2, (0, (7, 7, 1))), True)
        self.assertIs(shows_paint(high, (None,) * 3, (0,) * 3, 2, (0, (7, 7, 7))), False)
        self.assertIs(shows_paint(high, (8, None, None), (0,) * 3, 2, None), True)
        for value in ANYTHING:
            self.assertIs(shows_paint(high, (8, None, None), (0,) * 3, 2, value), value is None)

    def test_lines_that_swing(self):
        # What is painted must make it rest, at the least cost even where nothing is wished.
        self.assertEqual(cheapest_paint(SWINGING, (None,) * 4, (5, 2, 3, 9), 2), (2, (0, 0, 0, 1)))
        self.assertEqual(cheapest_paint(SWINGING, (None,) * 4, (5, 2, 3, 9), 3), (2, (0, 0, 0, 1)))
        self.assertEqual(cheapest_paint(SWINGING, (1,) * 4, (5, 2, 3, 9), 3), (3, (0, 1, 1, 1)))
        self.assertEqual(cheapest_paint(SWINGING, (None,) * 4, (0,) * 4, 1), (0, (0, 0, 0, 0)))
        self.assertEqual(fewest_painted(SWINGING, (None,) * 4, 10), 1)
        long = in_turn((40,), True)
        self.assertEqual(cheapest_paint(long, (None,) * 40, (1000,) * 40, 10), (1000, (0, 0) + (0, 1) * 19))
        self.assertEqual(one_colour(long, 3), ((0, 1), (1, 1), (2, 21)))
        self.assertEqual(fewest_painted(long, (0,) * 40, 10), 1)

    def test_nothing_wished(self):
        for line in (in_turn((40,)), in_turn((39,), True), in_turn((40, 3), True), ((7,), (), False)):
            many = len(line[0])
            self.assertEqual(cheapest_paint(line, (None,) * many, (1,) * many, 10), (0, line[0]))
            self.assertEqual(cheapest_paint(line, (None,) * many, (0,) * many, 10), (0, (0,) * many))
            self.assertEqual(fewest_painted(line, (None,) * many, 10), 0)
            self.assertEqual(fewest_painted(line, rest(line)[0], 10), 0)
            self.assertEqual(cheapest_paint(line, rest(line)[0], (1000,) * many, 1), (0, line[0]))

    def test_wishes_that_cannot_be(self):
        for line, wish, colours in ((((0, 0, 0), (), False), (5, None, None), 5),
                                    (((0, 1, 0), (), False), (0, 1, 0), 10), (((3,), (), False), (4,), 4),
                                    (((0, 1, 0), (), False), (None, 1, None), 1),
                                    (SWINGING, (0, 1, None, None), 1), (in_turn((40,), True), (0, 1) * 20, 10)):
            many = len(line[0])
            self.assertIsNone(cheapest_paint(line, wish, (1,) * many, colours))
            self.assertIsNone(fewest_painted(line, wish, colours))
            self.assertIs(shows_paint(line, wish, (1,) * many, colours, None), True)

    def test_least_colours_lead_to_a_line(self):
        # If painting is free, the least colours are those of the least leader.
        luck = random.Random(17)
        for _ in range(12):
            is_ring = luck.random() < 0.6
            many = luck.choice([12, 23, 39, 40])
            cells = []
            while len(cells) < many:
                cells += [luck.randrange(10)] * luck.choice([1, 2, 3, 5, 8])
            held = tuple(sorted(luck.sample(range(many), luck.choice([0, 0, 1, 3]))))
            line = (tuple(cells[:many]), held, is_ring)
            least = least_leader(line, 10)
            wanted = None if least is None else (0, least)
            self.assertEqual(cheapest_paint(line, line[0], (0,) * many, 10), wanted, line)

    def test_long_lines_turned_round(self):
        luck = random.Random(18)
        for _ in range(6):
            cells = tuple(luck.randrange(4) for _ in range(40))
            wish = random_wish(luck, 40, 4, 0.3)
            prices = tuple(luck.choice([0, 1, 7, 1000, luck.randrange(1001)]) for _ in range(40))
            best = cheapest_paint((cells, (), True), wish, prices, 10)
            for by in (1, 17):
                moved = [some[by:] + some[:by] for some in (cells, wish, prices)]
                found = cheapest_paint((moved[0], (), True), moved[1], moved[2], 10)
                self.assertEqual(found and found[0], best and best[0])
            if best:
                self.assertTrue(is_as_wished(rest((best[1], (), True))[0], wish))
                self.assertEqual(cost_of((cells, (), True), prices, best[1]), best[0])

    def test_one_colour_of_all_small_lines(self):
        paintings = Paintings()
        luck = random.Random(19)
        for _ in range(250):
            line = random_line(luck, 6, 3)
            for colours in (1, 2, 3):
                wanted = []
                for colour in range(colours):
                    alone = [cost_of(line, (1,) * len(line[0]), cells) for cells, resting in
                             paintings.of(line, colours) if set(resting) == {colour}]
                    wanted.append((colour, min(alone)))
                self.assertEqual(one_colour(line, colours), tuple(wanted), (line, colours))

    def test_one_colour_of_long_lines(self):
        luck = random.Random(20)
        for is_ring, held in ((False, ()), (False, (7, 8, 20)), (True, ()), (True, (0,)), (True, (5, 6, 31))):
            line = (tuple(luck.randrange(7) for _ in range(40)), held, is_ring)
            wanted = tuple((colour, plain_one_colour(line, colour)) for colour in range(10))
            self.assertEqual(one_colour(line, 10), wanted, line)

    def test_kept_cells_over_all_paintings(self):
        paintings = Paintings()
        luck = random.Random(21)
        lines = [random_line(luck, 6, 3) for _ in range(250)]
        for frame in frames_of((1, 2, 3, 4), False) + frames_of((3, 4), True):
            lines += lines_of(frame, 3)[::2]
        for line in lines:
            resting = plain_rest(line)
            for colours in (1, 2, 3):
                if resting is None:
                    self.assertRaises(Swings, kept_cells, line, colours)
                    continue
                some = [(cost_of(line, (1,) * len(line[0]), cells), other)
                        for cells, other in paintings.of(line, colours)]
                wanted = tuple(min([cost for cost, other in some if other[cell] != resting[cell]], default=None)
                               for cell in range(len(line[0])))
                self.assertEqual(kept_cells(line, colours), wanted, (line, colours))

    def test_kept_cells_of_longer_lines_of_one_colour(self):
        paintings = Paintings()
        for line in (((0, 1, 0, 1, 0, 2, 0, 2, 2, 0, 0), (), False), ((1, 2, 1, 2, 0, 1, 0, 1, 2, 0), (), True),
                     ((2, 0, 2, 1, 2, 0, 2, 0, 1), (5,), True)):
            resting = plain_rest(line)
            some = [(cost_of(line, (1,) * len(line[0]), cells), other) for cells, other in paintings.of(line, 1)]
            wanted = tuple(min([cost for cost, other in some if other[cell] != resting[cell]], default=None)
                           for cell in range(len(line[0])))
            self.assertEqual(kept_cells(line, 1), wanted, line)
            self.assertIn(None, wanted)
            self.assertTrue(set(wanted) & {1, 2})

    def test_kept_cells_of_long_lines(self):
        self.assertEqual(kept_cells(((0,) * 40, (), True), 1), (None,) * 40)
        self.assertEqual(kept_cells(((0,) * 40, (), True), 10), (2,) * 40)
        self.assertEqual(kept_cells(((0,) * 40, tuple(range(40)), True), 2), (1,) * 40)
        self.assertEqual(kept_cells(((5,), (), False), 5), (1,))
        self.assertEqual(kept_cells(((0,), (), False), 1), (None,))
        self.assertRaises(Swings, kept_cells, in_turn((40,), True), 10)

    def test_bad_lines(self):
        for value, index in BAD_LINES:
            for function, more in ((cheapest_paint, (NONE, FREE, 2)), (shows_paint, (NONE, FREE, 2, None)),
                                   (fewest_painted, (NONE, 2)), (one_colour, (2,)), (kept_cells, (2,)),
                                   (cheapest_paint, (None, None, None)), (shows_paint, ([], {}, (), "")),
                                   (fewest_painted, (0, 0)), (one_colour, (0,)), (kept_cells, (None,))):
                with self.assertRaises(BadLine) as caught:
                    function(value, *more)
                self.assertEqual(caught.exception.index, index, value)

    def test_bad_wishes(self):
        for value in BAD_WISHES:
            for prices, colours in ((FREE, 2), (None, None), ([], 0)):
                self.assertRaises(BadWish, cheapest_paint, GOOD_LINE, value, prices, colours)
                self.assertRaises(BadWish, shows_paint, GOOD_LINE, value, prices, colours, None)
                self.assertRaises(BadWish, fewest_painted, GOOD_LINE, value, colours)
        for value in ANYTHING:
            self.assertRaises(BadWish, cheapest_paint, SWINGING, value, (0,) * 4, 2)

    def test_bad_prices(self):
        for value in BAD_PRICES:
            for colours in (2, None, 0):
                self.assertRaises(BadPrices, cheapest_paint, GOOD_LINE, NONE, value, colours)
                self.assertRaises(BadPrices, shows_paint, GOOD_LINE, NONE, value, colours, None)

    def test_bad_counts(self):
        for colours in no_integer_within(1, 10):
            for line in (GOOD_LINE, in_turn((5,), True)):
                self.assertRaises(BadCount, cheapest_paint, line, NONE, FREE, colours)
                self.assertRaises(BadCount, shows_paint, line, NONE, FREE, colours, None)
                self.assertRaises(BadCount, fewest_painted, line, NONE, colours)
                self.assertRaises(BadCount, one_colour, line, colours)
                self.assertRaises(BadCount, kept_cells, line, colours)
            # Swings comes behind all others.
            self.assertRaises(BadCount, kept_cells, SWINGING, colours)
        self.assertRaises(Swings, kept_cells, SWINGING, 2)
