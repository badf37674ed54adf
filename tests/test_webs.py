"""Promise 28: webs."""

import random
import unittest
from fractions import Fraction

from flankturns.chances import mean_turns
from flankturns.errors import BadWeb, Swings
from flankturns.hands import winning_cells, worth
from flankturns.singles import end_count, ends_by_turns
from flankturns.steps import rest, rest_time
from flankturns.webs import web_ends, web_mean, web_moves, web_rest, web_time, web_turns, web_worth
from tests.tools import (BAD_WEBS, GOOD_LINE, SWINGING, in_turn, plain_course, plain_ready, plain_turned, ratio_of,
                         sample_lines)

ALL = (web_rest, web_time, web_ends, web_turns, web_mean, web_worth, web_moves)
FOUR = ((0, 1, 0, 1), (), False)
FLAT = ((3,), (), False)


def further_webs(web):
    """The pairs of a web one turn further and that turn, the index of its line and its cell."""
    return [(web[:index] + (plain_turned(line, cell),) + web[index + 1:], (index, cell))
            for index, line in enumerate(web) for cell in plain_ready(line)]


def web_levels(web):
    """For 0, 1, .. turns a dict from the webs that can come to the chances that they do."""
    level = {web: Fraction(1)}
    found = []
    while level:
        found.append(level)
        behind = {}
        for one, chance in level.items():
            further = further_webs(one)
            for other, _ in further:
                behind[other] = behind.get(other, 0) + chance / len(further)
        level = behind
    return found


def plain_worth(web, known):
    """The worth of a web, by those of all webs one turn further."""
    if web not in known:
        further = [plain_worth(other, known) for other, _ in further_webs(web)]
        known[web] = min(number for number in range(len(further) + 1) if number not in further)
    return known[web]


def some_webs():
    """Webs of 1 to 6 lines, with few ready cells."""
    luck = random.Random(280)
    lines = [line for line in sample_lines() if 0 < len(plain_ready(line)) < 6][::5]
    found = [(line,) for line in lines[::9]] + [(FLAT,), (SWINGING,), (SWINGING, FLAT), (FOUR, SWINGING)]
    found += [(FLAT,) * 6, (FOUR,) * 4, (FOUR, FLAT, FOUR, FLAT, GOOD_LINE, FLAT), (FOUR, FOUR), (FOUR, GOOD_LINE)]
    found += [tuple(luck.sample(lines, 2)) for _ in range(40)]
    found += [(luck.choice(lines), FLAT, in_turn((4, 1), True), FOUR) for _ in range(6)]
    return found


class TestWebs(unittest.TestCase):
    def test_all_turns(self):
        for web in some_webs():
            ended = [{one: chance for one, chance in level.items() if not further_webs(one)}
                     for level in web_levels(web)]
            self.assertEqual(web_turns(web), tuple(len(level) for level in ended), web)
            self.assertEqual(web_ends(web), sum(len(level) for level in ended), web)
            mean = sum((many * chance for many, level in enumerate(ended) for chance in level.values()), Fraction(0))
            self.assertEqual(web_mean(web), ratio_of(mean), web)

    def test_two_hands(self):
        for web in some_webs():
            known = {}
            self.assertEqual(web_worth(web), plain_worth(web, known), web)
            winning = [turn for other, turn in further_webs(web) if plain_worth(other, known) == 0]
            self.assertEqual(web_moves(web), tuple(winning), web)

    def test_steps(self):
        for web in some_webs():
            courses = [plain_course(line) for line in web]
            if None in courses:
                self.assertRaises(Swings, web_rest, web)
                self.assertRaises(Swings, web_time, web)
                continue
            self.assertEqual(web_rest(web), tuple(course[-1] for course in courses), web)
            self.assertEqual(web_time(web), max(len(course) for course in courses) - 1, web)

    def test_one_line(self):
        for line in sample_lines()[::25] + [in_turn((40,)), in_turn((40, 0), True)]:
            web = (line,)
            self.assertEqual(web_turns(web), ends_by_turns(line))
            self.assertEqual([web_ends(web), web_mean(web), web_worth(web)],
                             [end_count(line), mean_turns(line), worth(line)])
            self.assertEqual(web_moves(web), tuple((0, cell) for cell in winning_cells(line)))
            if plain_course(line) is not None:
                self.assertEqual([web_rest(web), web_time(web)], [(rest(line),), rest_time(line)])

    def test_six_long_lines(self):
        row, ring = in_turn((40,)), in_turn((40,), True)
        web = (row, ring, row, in_turn((40, 7), True), FLAT, in_turn((39,)))
        number = 1
        for line in web:
            number *= end_count(line)
        self.assertEqual(web_ends(web), number)
        self.assertEqual(sum(web_turns(web)), number)
        self.assertEqual(len(web_turns(web)) - 1, sum(len(ends_by_turns(line)) - 1 for line in web))
        mean = sum((Fraction(*mean_turns(line)) for line in web), Fraction(0))
        self.assertEqual(web_mean(web), ratio_of(mean))
        total = 0
        for line in web:
            total ^= worth(line)
        self.assertEqual(web_worth(web), total)
        self.assertEqual(web_moves(web), tuple(turn for other, turn in further_webs(web) if web_worth(other) == 0))
        self.assertRaises(Swings, web_rest, web)
        self.assertRaises(Swings, web_time, web)
        self.assertEqual(web_time(web[2:]), 20)
        self.assertEqual(web_rest((row,) * 6), (rest(row),) * 6)

    def test_lines_that_swing(self):
        for web in ((SWINGING,), (GOOD_LINE, SWINGING), (SWINGING, FLAT) * 3):
            self.assertRaises(Swings, web_rest, web)
            self.assertRaises(Swings, web_time, web)
            for function in ALL[2:]:
                function(web)
        self.assertEqual([web_turns((SWINGING,)), web_mean((SWINGING,)), web_worth((SWINGING,))],
                         [(0, 0, 2), (2, 1), 0])

    def test_bad_webs(self):
        for value, index in BAD_WEBS:
            for function in ALL:
                with self.assertRaises(BadWeb) as caught:
                    function(value)
                self.assertEqual(caught.exception.index, index, value)
