"""Promise 24: lines that are drawn."""

import random
import unittest
from fractions import Fraction
from math import prod

from flankturns.errors import BadCell, BadCount, BadFrame, BadOdds
from flankturns.frames import lines_by_time, most_time, swinging_count
from flankturns.odds import all_chance, rest_chances, swing_chance, time_chances
from flankturns.leaders import leader_count
from tests.tools import (BAD_FRAMES, BAD_ODDS, frames_of, lines_of, no_integer_within, plain_course, random_frame,
                         ratio_of)

FRAME = (5, (), False)
LONG = ((40, (), False), (40, (), True), (39, (), True), (40, (7,), True), (40, (3, 4, 20), False))


class TestOdds(unittest.TestCase):
    def assert_odds(self, frame, odds):
        many = frame[0]
        times = [Fraction(0)] * (most_time(frame) + 1)
        rests = [[Fraction(0)] * len(odds) for _ in range(many)]
        alone = [Fraction(0)] * 10
        swinging = Fraction(0)
        for line in lines_of(frame, len(odds)):
            chance = Fraction(prod(odds[colour] for colour in line[0]), sum(odds) ** many)
            course = plain_course(line) if chance else None
            if course is None:
                swinging += chance
                continue
            times[len(course) - 1] += chance
            resting = course[-1][0]
            for cell, colour in enumerate(resting):
                rests[cell][colour] += chance
            if len(set(resting)) == 1:
                alone[resting[0]] += chance
        self.assertEqual(time_chances(frame, odds), tuple(map(ratio_of, times)), (frame, odds))
        self.assertEqual(swing_chance(frame, odds), ratio_of(swinging), (frame, odds))
        for cell in range(many):
            self.assertEqual(rest_chances(frame, odds, cell), tuple(map(ratio_of, rests[cell])), (frame, odds, cell))
        for colour in range(10):
            self.assertEqual(all_chance(frame, odds, colour), ratio_of(alone[colour]), (frame, odds, colour))

    def test_all_lines_of_small_frames(self):
        for frame in frames_of((1, 2, 3, 4), False) + frames_of((3, 4), True):
            for odds in ((1,), (100, 1), (0, 3), (3, 1, 2), (0, 2, 2), (1, 0, 5, 4)):
                self.assert_odds(frame, odds)

    def test_all_lines_of_longer_frames(self):
        luck = random.Random(240)
        for most, colours, number in ((9, 2, 30), (6, 3, 30), (5, 4, 15)):
            for _ in range(number):
                odds = tuple(luck.choice([0, 1, 1, 2, 7, 100]) for _ in range(colours))
                if any(odds):
                    self.assert_odds(random_frame(luck, most), odds)
        for frame, odds in (((10, (), True), (1, 2)), ((7, (), True), (3, 1, 1)), ((8, (3,), True), (5, 2)),
                            ((8, (), True), (1, 0, 2)), ((10, (), False), (2, 1)), ((3, (), True), (1,) * 10),
                            ((4, (), True), tuple(range(6)))):
            self.assert_odds(frame, odds)

    def test_even_odds_of_long_frames(self):
        for frame in LONG:
            for colours in (1, 2, 10):
                odds = (7,) * colours
                total = colours ** frame[0]
                wanted = tuple(ratio_of(Fraction(number, total)) for number in lines_by_time(frame, colours))
                self.assertEqual(time_chances(frame, odds), wanted)
                swinging = Fraction(swinging_count(frame, colours), total)
                self.assertEqual(swing_chance(frame, odds), ratio_of(swinging))
                for colour in range(10):
                    flat = ((colour,) * frame[0],) + frame[1:]
                    wanted = Fraction(leader_count(flat, colours), total)
                    self.assertEqual(all_chance(frame, odds, colour), ratio_of(wanted))
                for cell in (0, 5, 21):
                    self.assertEqual(rest_chances(frame, odds, cell), (ratio_of((1 - swinging) / colours),) * colours)

    def test_odds_of_ten_colours_and_long_frames(self):
        odds = (100, 0, 3, 50, 1, 1, 99, 7, 20, 64)
        total = sum(odds)
        for frame in LONG:
            swinging = Fraction(*swing_chance(frame, odds))
            times = [Fraction(*chance) for chance in time_chances(frame, odds)]
            self.assertEqual(len(times), most_time(frame) + 1)
            self.assertEqual(sum(times) + swinging, 1)
            for cell in (0, 1, 20, 38):
                rests = [Fraction(*chance) for chance in rest_chances(frame, odds, cell)]
                self.assertEqual(len(rests), 10)
                self.assertEqual(sum(rests) + swinging, 1)
                self.assertEqual(rests[1], 0)
            pairs = [(one, other) for k, one in enumerate(odds) for m, other in enumerate(odds) if k != m]
            if frame == (40, (), True):
                weight = sum((one * other) ** 20 for one, other in pairs)
                self.assertEqual(swinging, Fraction(weight, total ** 40))
            else:
                self.assertEqual(swinging, 0)
            self.assertEqual(all_chance(frame, odds, 1), (0, 1))
        # The row's longest time: all cells in turn, or all but one at either end that is not in turn.
        weight = sum((one * other) ** 19 * (one * other + 2 * one * (total - other)) for one, other in pairs)
        self.assertEqual(time_chances(LONG[0], odds)[-1], ratio_of(Fraction(weight, total ** 40)))
        # Next to the end of a row a cell turns once at most.
        wanted = Fraction(100, total) + sum(Fraction(100 * other * (100 - other), total ** 3) for other in odds[1:])
        self.assertEqual(rest_chances(LONG[0], odds, 1)[0], ratio_of(wanted))

    def test_turned_round_and_mirrored(self):
        odds = (5, 1, 9)
        for cell in range(12):
            self.assertEqual(rest_chances((12, (), True), odds, cell), rest_chances((12, (), True), odds, 0))
            self.assertEqual(rest_chances((12, (), False), odds, cell), rest_chances((12, (), False), odds, 11 - cell))
            self.assertEqual(rest_chances((12, (5,), True), odds, (cell + 5) % 12),
                             rest_chances((12, (0,), True), odds, cell))

    def test_all_held(self):
        frame = (40, tuple(range(40)), True)
        self.assertEqual(time_chances(frame, (1, 2)), ((1, 1),))
        self.assertEqual(rest_chances(frame, (1, 2), 39), ((1, 3), (2, 3)))
        self.assertEqual(all_chance(frame, (1, 2), 1), (2 ** 40, 3 ** 40))
        self.assertEqual(swing_chance(frame, (1, 2)), (0, 1))

    def test_bad_frames(self):
        for value in BAD_FRAMES:
            for function, more in ((rest_chances, ((1, 1), 0)), (time_chances, ((1, 1),)), (swing_chance, ((1, 1),)),
                                   (all_chance, ((1, 1), 0)), (rest_chances, (None, None)), (time_chances, ([],)),
                                   (swing_chance, (0,)), (all_chance, ((0,), -1))):
                self.assertRaises(BadFrame, function, value, *more)

    def test_bad_odds(self):
        for value in BAD_ODDS:
            for function, more in ((rest_chances, (0,)), (time_chances, ()), (swing_chance, ()), (all_chance, (0,)),
                                   (rest_chances, (None,)), (all_chance, (10,))):
                self.assertRaises(BadOdds, function, FRAME, value, *more)

    def test_bad_cells(self):
        for frame in (FRAME, (4, (), True), (1, (), False)):
            for cell in no_integer_within(0, frame[0] - 1):
                self.assertRaises(BadCell, rest_chances, frame, (1, 1), cell)

    def test_bad_counts(self):
        for colour in no_integer_within(0, 9):
            for frame in (FRAME, (4, (), True)):
                self.assertRaises(BadCount, all_chance, frame, (1, 1), colour)
