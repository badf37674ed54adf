"""Promises 20 and 21: ends that are wished, and what ends cost."""

import random
import unittest

from flankturns.errors import BadLine, BadPrices, BadWish, Swings
from flankturns.singles import end_count, end_with, ends, ends_by_turns, fewest_turns, most_turns
from flankturns.steps import turn_counts
from flankturns.wishes import (cheapest_end, dearest_end, fewest_to, most_to, step_cost, wished_end, wished_ends)
from tests.tools import (ANYTHING, BAD_LINES, BAD_PRICES, BAD_WISHES, GOOD_LINE, SWINGING, in_turn, is_as_wished,
                         is_still, levels_of, plain_course, plain_ready, random_wish, sample_lines)

WISHING = (wished_ends, wished_end, fewest_to, most_to)
PRICING = (cheapest_end, dearest_end, step_cost)


def cost_of(line, prices, cells):
    """What the cells cost that have turned for some colours."""
    return sum(price for price, one, other in zip(prices, cells, line[0]) if one != other)


def some_wishes(luck, line, levels):
    """Wishes for a line: any, and such as colours that can come have."""
    many = len(line[0])
    found = [(None,) * many, line[0], random_wish(luck, many, 3), random_wish(luck, many, 2, 0.3)]
    for _ in range(4):
        cells = luck.choice(list(luck.choice(levels)))
        share = luck.choice([0.2, 0.5, 1])
        found.append(tuple(colour if luck.random() < share else None for colour in cells))
    return found


class TestWishes(unittest.TestCase):
    def test_all_turns(self):
        luck = random.Random(200)
        for line in sample_lines()[::2]:
            levels = levels_of(line)
            ended = [cells for level in levels for cells in level if is_still(line, cells)]
            for wish in some_wishes(luck, line, levels):
                good = [cells for cells in ended if is_as_wished(cells, wish)]
                self.assertEqual(wished_ends(line, wish), len(good), (line, wish))
                self.assertEqual(wished_end(line, wish), min(good, default=None), (line, wish))
                turns = [many for many, level in enumerate(levels)
                         if any(is_as_wished(cells, wish) for cells in level)]
                self.assertEqual(fewest_to(line, wish), min(turns, default=None), (line, wish))
                self.assertEqual(most_to(line, wish), max(turns, default=None), (line, wish))

    def test_costs_of_all_ends(self):
        luck = random.Random(201)
        for line in sample_lines()[1::2]:
            ended = [cells for level in levels_of(line) for cells in level if is_still(line, cells)]
            many = len(line[0])
            for prices in ((0,) * many, (1000,) * many, tuple(luck.choice([0, 1, 2, 1000]) for _ in range(many)),
                           tuple(luck.randrange(1001) for _ in range(many))):
                costs = [(cost_of(line, prices, cells), cells) for cells in ended]
                self.assertEqual(cheapest_end(line, prices), min(costs), (line, prices))
                dearest = max(cost for cost, _ in costs)
                least = min(cells for cost, cells in costs if cost == dearest)
                self.assertEqual(dearest_end(line, prices), (dearest, least), (line, prices))

    def test_step_costs(self):
        luck = random.Random(202)
        for line in sample_lines():
            prices = tuple(luck.choice([0, 1, 7, 1000]) for _ in line[0])
            course = plain_course(line)
            if course is None:
                self.assertRaises(Swings, step_cost, line, prices)
            else:
                turned = [cell for one in course for cell in plain_ready(one)]
                self.assertEqual(step_cost(line, prices), sum(prices[cell] for cell in turned), line)
        for line in (in_turn((40,)), in_turn((40, 7), True)):
            self.assertEqual(step_cost(line, (1000,) * 40), 1000 * sum(turn_counts(line)))

    def test_long_lines(self):
        for line in (in_turn((40,)), in_turn((40,), True), in_turn((40, 0), True), in_turn((39, 11, 24)),
                     in_turn((40, 3, 9, 17), True)):
            many = len(line[0])
            nothing = (None,) * many
            self.assertEqual(wished_ends(line, nothing), end_count(line))
            self.assertEqual([fewest_to(line, nothing), most_to(line, nothing)], [0, most_turns(line)])
            self.assertEqual(cheapest_end(line, (1,) * many)[0], fewest_turns(line))
            self.assertEqual(dearest_end(line, (1,) * many)[0], most_turns(line))
            self.assertEqual(cheapest_end(line, (0,) * many), (0, wished_end(line, nothing)))
            self.assertEqual(dearest_end(line, (0,) * many), (0, wished_end(line, nothing)))
            cost, cells = dearest_end(line, (1000,) * many)
            self.assertEqual(cost, 1000 * ends_by_turns(line).index(ends_by_turns(line)[-1], most_turns(line)))
            self.assertEqual(wished_ends(line, cells), 1)
            self.assertEqual(wished_end(line, cells), cells)
            self.assertEqual([fewest_to(line, cells), most_to(line, cells)], [most_turns(line)] * 2)
            self.assertEqual([fewest_to(line, line[0]), most_to(line, line[0])], [0, 0])
            self.assertEqual([wished_ends(line, line[0]), wished_end(line, line[0])], [0, None])

    def test_ends_of_longer_lines(self):
        luck = random.Random(203)
        for line in (in_turn((24,)), in_turn((22,), True), in_turn((25, 8, 17)), in_turn((24, 5), True)):
            for wish in (random_wish(luck, len(line[0]), 2, 0.15) for _ in range(5)):
                good = [cells for cells in ends(line) if is_as_wished(cells, wish)]
                wanted = [len(good), min(good, default=None)]
                self.assertEqual([wished_ends(line, wish), wished_end(line, wish)], wanted)
            prices = tuple(luck.randrange(1001) for _ in line[0])
            costs = [(cost_of(line, prices, cells), cells) for cells in ends(line)]
            self.assertEqual(cheapest_end(line, prices), min(costs))
            self.assertEqual(dearest_end(line, prices), max(costs))
        line = in_turn((24,))
        self.assertEqual(cheapest_end(line, (5,) * 24), (40, end_with(line, 8)))
        self.assertEqual(dearest_end(line, (5,) * 24), (55, end_with(line, 11)))

    def test_lines_without_a_turn(self):
        for line in (((5,), (), False), ((5, 6), (), False), ((0, 1, 0), (1,), False), ((0, 1, 2), (), True),
                     ((0,) * 40, (), True), ((0, 1) * 20, tuple(range(40)), True)):
            many = len(line[0])
            for wish in ((None,) * many, line[0]):
                self.assertEqual([one(line, wish) for one in WISHING], [1, line[0], 0, 0])
            self.assertEqual([one(line, (9,) * many) for one in WISHING], [0, None, None, None])
            self.assertEqual([one(line, (1000,) * many) for one in PRICING], [(0, line[0]), (0, line[0]), 0])

    def test_bad_lines(self):
        for value, index in BAD_LINES:
            for function in WISHING + PRICING:
                for more in ((0,) * 5, None, []):
                    with self.assertRaises(BadLine) as caught:
                        function(value, more)
                    self.assertEqual(caught.exception.index, index, value)

    def test_bad_wishes(self):
        for function in WISHING:
            for value in BAD_WISHES:
                self.assertRaises(BadWish, function, GOOD_LINE, value)
            for value in ANYTHING:
                self.assertRaises(BadWish, function, SWINGING, value)

    def test_bad_prices(self):
        for function in PRICING:
            for value in BAD_PRICES:
                self.assertRaises(BadPrices, function, GOOD_LINE, value)
            # Swings comes behind all others.
            for value in ANYTHING:
                self.assertRaises(BadPrices, function, SWINGING, value)
        self.assertRaises(Swings, step_cost, SWINGING, (0,) * 4)
