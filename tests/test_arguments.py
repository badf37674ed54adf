"""Promise 1: what holds for every call."""

import copy
import inspect
import unittest

from flankturns import (between, chances, comers, desk, frames, freeing, freely, gardens, hands, holds, joins,
                        leaders, lines, linetext, masses, odds, paint, painters, pasts, pictures, ranks, seeing,
                        sights, singles, steps, webs, wishes)
from flankturns.errors import FlankError
from tests.tools import (ANYTHING, BAD_CELLS, BAD_FRAMES, BAD_HELD, BAD_LINES, BAD_NAMES, BAD_ODDS,
                         BAD_PAINTED, BAD_PRICES, BAD_SIGHTS, BAD_TOLD, BAD_WEBS, BAD_WISHES, NO_FLAGS, NO_PICTURES)

LINE = ((0, 1, 0, 1, 0), (), False)
FRAME = (5, (), False)
COLOURS = (0, 1, 1, 1, 0)
OWN = LINE[0]
WISH = (None, None, 0, None, 0)
PRICES = (1, 2, 0, 1000, 5)
SIGHTS = (WISH, WISH)
RING = ((0, 1, 0, 1, 2), (1, 3), True)
NAMES = tuple(range(9, -1, -1))
WEB = (LINE, RING)
PAINTED = (None, 0, 1, None, None)

# For each function of the interface arguments that are right.
RIGHT = {
    lines: {"ready_cells": (LINE,), "turned": (LINE, 2), "stretches": (LINE,), "swings": (LINE,), "depths": (LINE,)},
    linetext: {"write_line": (LINE,), "read_line": ("01*0o",)},
    steps: {"step": (LINE,), "after": (LINE, 2), "rest": (LINE,), "rest_time": (LINE,), "turn_counts": (LINE,),
            "turns_by": (LINE, 2), "changes": (LINE,), "last_turned": (LINE,), "colour_at": (LINE, 2, 2)},
    masses: {"masses": (LINE,), "gains": (LINE,), "borders": (LINE,), "lost_borders": (LINE,)},
    pasts: {"before_count": (LINE, 2), "least_before": (LINE, 2), "befores": (LINE, 2), "past": (LINE, 2, 2)},
    leaders: {"leader_count": (LINE, 2), "leaders_by_time": (LINE, 2), "least_leader": (LINE, 2),
              "slowest_leader": (LINE, 2)},
    frames: {"most_time": (FRAME,), "resting_count": (FRAME, 2), "lines_by_time": (FRAME, 2),
             "swinging_count": (FRAME, 2), "mean_time": (FRAME, 2)},
    singles: {"can_come": (LINE, COLOURS), "is_end": (LINE, COLOURS), "come_count": (LINE,), "end_count": (LINE,),
              "comes_by_turns": (LINE,), "ends_by_turns": (LINE,), "ends": (LINE,), "fewest_turns": (LINE,),
              "most_turns": (LINE,), "ways_to": (LINE, COLOURS), "ways_in_all": (LINE,), "end_with": (LINE, 2),
              "is_rest_an_end": (LINE,)},
    chances: {"turn_chance": (LINE, 2), "mean_turns": (LINE,), "turns_chances": (LINE,),
              "end_chance": (LINE, COLOURS), "first_chance": (LINE, 1, 2)},
    hands: {"worth": (LINE,), "last_hand": (LINE,), "winning_cells": (LINE,), "turns_value": (LINE, True)},
    paint: {"cheapest_paint": (LINE, WISH, PRICES, 2), "shows_paint": (LINE, WISH, PRICES, 2, (0, OWN)),
            "fewest_painted": (LINE, WISH, 2), "one_colour": (LINE, 2), "kept_cells": (LINE, 2)},
    sights: {"fit_count": (FRAME, SIGHTS, 2), "least_fit": (FRAME, SIGHTS, 2), "sure_colours": (FRAME, SIGHTS, 2),
             "possible_colours": (FRAME, SIGHTS, 2), "next_asked": (FRAME, SIGHTS, 2),
             "told_times": (FRAME, SIGHTS, 2)},
    holds: {"fewest_holds": (LINE, WISH), "shows_holds": (LINE, WISH, (0, ())), "held_rest": (LINE, (1, 3)),
            "hold_effects": (LINE,)},
    wishes: {"wished_ends": (LINE, WISH), "wished_end": (LINE, WISH), "fewest_to": (LINE, WISH),
             "most_to": (LINE, WISH), "cheapest_end": (LINE, PRICES), "dearest_end": (LINE, PRICES),
             "step_cost": (LINE, PRICES)},
    between: {"turns_between": (LINE, COLOURS), "common_count": (LINE, OWN, COLOURS),
              "last_common": (LINE, OWN, COLOURS), "joined_turns": (LINE, OWN, COLOURS)},
    freely: {"free_count": (LINE,), "free_ends": (LINE,), "is_free": (LINE, COLOURS), "free_time": (LINE, COLOURS)},
    odds: {"rest_chances": (FRAME, (1, 2), 2), "time_chances": (FRAME, (1, 2)), "swing_chance": (FRAME, (1, 2)),
           "all_chance": (FRAME, (1, 2), 1)},
    ranks: {"rest_number": (((0, 1, 1), (), False), 2), "rest_at": (FRAME, 2, 3), "next_rest": (LINE, 2)},
    seeing: {"seen": (LINE, 2, 3), "seen_count": (FRAME, 2, 2, (0, 1)), "can_be_seen": ((0, 1, 0),)},
    joins: {"joined": (LINE, LINE), "mirrored": (LINE,), "shifted": (RING, 1), "opened": (RING, 1),
            "renamed": (LINE, NAMES)},
    webs: {"web_rest": (WEB,), "web_time": (WEB,), "web_ends": (WEB,), "web_turns": (WEB,), "web_mean": (WEB,),
           "web_worth": (WEB,), "web_moves": (WEB,)},
    freeing: {"freed_rest": (LINE, (1, 2), 3), "freed_time": (LINE, (1, 2), 3)},
    painters: {"painters_value": (FRAME, PAINTED), "painters_cells": (FRAME, PAINTED)},
    pictures: {"picture": (LINE,), "read_picture": (("0101", "0011"),)},
    gardens: {"garden_count": (FRAME, 2), "least_garden": (FRAME, 2), "age_counts": (FRAME, 2)},
    comers: {"come_number": (LINE, COLOURS), "come_at": (LINE, 3), "first_come": (LINE,), "last_come": (LINE,),
             "come_between": (LINE, OWN, COLOURS)},
}

# The errors for values that could not be asked for, by the names of arguments; judged values have none.
WRONG = {"line": "BadLine", "cell": "BadCell", "many": "BadTime", "colours": "BadCount", "cells": "BadCells",
         "frame": "BadFrame", "text": "NotText", "one": "BadCells", "other": "BadCells", "is_more": "BadFlag",
         "wish": "BadWish", "prices": "BadPrices", "sights": "BadSights", "odds": "BadOdds", "colour": "BadCount",
         "value": None, "index": "BadIndex", "told": "BadSeen", "by": "BadCell", "names": "BadNames", "web": "BadWeb",
         "painted": "BadPainted", "low": "BadCells", "high": "BadCells", "some": None}
ELSE_WRONG = {("end_with", "many"): "BadCount", ("first_chance", "one"): "BadCell",
              ("first_chance", "other"): "BadCell", ("held_rest", "cells"): "BadCell",
              ("freed_rest", "cells"): "BadCell", ("freed_time", "cells"): "BadCell",
              ("joined", "one"): "BadLine", ("joined", "other"): "BadLine"}
# What is right for some arguments, and wrong for all others.
ELSE_RIGHT = {("held_rest", "cells"): [()], ("freed_rest", "cells"): [()], ("freed_time", "cells"): [()],
              ("turns_value", "is_more"): [True, False]}
NOTHING = [None, -1, [], {}, (), True, False, 10 ** 30, (None,), [0], {0: 0}]


def all_functions():
    """The functions of the interface with right arguments and the names of their wrong ones' errors."""
    for module, table in RIGHT.items():
        for name, right in table.items():
            function = getattr(module, name)
            names = list(inspect.signature(function).parameters)
            wanted = [ELSE_WRONG.get((name, one), WRONG[one]) for one in names]
            yield function, right, wanted


def wrong_values(function, place):
    """Values that are wrong for the argument of a function at a place."""
    name = list(inspect.signature(function).parameters)[place]
    right = ELSE_RIGHT.get((function.__name__, name), [])
    return [value for value in NOTHING if not any(kind_of(value) == kind_of(one) and value == one for one in right)]


def kind_of(value):
    """The kind of a value, told for all that it contains."""
    if isinstance(value, (tuple, list)):
        return type(value), [kind_of(one) for one in value]
    return type(value)


class TestArguments(unittest.TestCase):
    def test_functions_stand_in_their_files(self):
        for function, right, _ in all_functions():
            self.assertIn(f"flankturns.{function.__module__.rsplit('.')[-1]}", [one.__name__ for one in RIGHT])
            self.assertEqual(len(inspect.signature(function).parameters), len(right), function)
        for module, table in RIGHT.items():
            for name in table:
                self.assertEqual(getattr(module, name).__module__, module.__name__, name)

    def test_leftmost_wrong_argument(self):
        for function, right, wanted in all_functions():
            for place, name in enumerate(wanted):
                for wrong in wrong_values(function, place) if name else []:
                    arguments = right[:place] + (wrong,) * (len(right) - place)
                    with self.assertRaises(FlankError) as caught:
                        function(*arguments)
                    self.assertEqual(type(caught.exception).__name__, name, (function, arguments))

    def test_two_wrong_arguments(self):
        for function, right, wanted in all_functions():
            for place, name in enumerate(wanted):
                for behind in range(place + 1, len(right)):
                    for wrong in wrong_values(function, place) if name else []:
                        arguments = right[:place] + (wrong,) + right[place + 1:behind] + ("",) + right[behind + 1:]
                        with self.assertRaises(FlankError) as caught:
                            function(*arguments)
                        self.assertEqual(type(caught.exception).__name__, name, (function, arguments))

    def test_one_wrong_argument(self):
        for function, right, wanted in all_functions():
            for place, name in enumerate(wanted):
                for wrong in wrong_values(function, place) if name else []:
                    arguments = right[:place] + (wrong,) + right[place + 1:]
                    with self.assertRaises(FlankError) as caught:
                        function(*arguments)
                    self.assertEqual(type(caught.exception).__name__, name, (function, arguments))

    def test_judged_values(self):
        for function, right, wanted in all_functions():
            if None in wanted:
                place = wanted.index(None)
                is_bool = function is not pictures.read_picture
                values = ANYTHING + BAD_CELLS + BAD_WISHES + BAD_PRICES + BAD_SIGHTS + NO_PICTURES
                for value in values:
                    found = function(*right[:place], value, *right[place + 1:])
                    self.assertIs(found, False if is_bool else None, (function, value))
                self.assertIs(function(*right) if is_bool else function(*right) is not None, True)

    def test_arguments_are_not_modified(self):
        values = ANYTHING + BAD_CELLS + BAD_FRAMES + [value for value, _ in BAD_LINES] + BAD_WISHES + BAD_PRICES
        values += BAD_SIGHTS + BAD_ODDS + NO_FLAGS + BAD_HELD + BAD_TOLD + BAD_NAMES + [value for value, _ in BAD_WEBS]
        values += BAD_PAINTED + NO_PICTURES
        for function, right, _ in all_functions():
            for place in range(len(right)):
                for value in values:
                    kept = copy.deepcopy(value)
                    try:
                        function(*right[:place], value, *right[place + 1:])
                    except FlankError:
                        pass
                    self.assertEqual(kind_of(value), kind_of(kept))
                    self.assertEqual(value, kept)

    def test_equal_arguments_have_equal_answers(self):
        for function, right, _ in all_functions():
            first = function(*right)
            again = function(*copy.deepcopy(right))
            self.assertEqual(first, again)
            self.assertEqual(kind_of(first), kind_of(again))
            if isinstance(first, list):
                self.assertIsNot(first, function(*right))

    def test_kinds_of_answers(self):
        others = {
            int: ("rest_time", "colour_at", "borders", "lost_borders", "before_count", "past", "leader_count",
                  "most_time", "resting_count", "swinging_count", "come_count", "end_count", "fewest_turns",
                  "most_turns", "ways_to", "ways_in_all", "worth", "turns_value", "fewest_painted", "fit_count",
                  "next_asked", "wished_ends", "fewest_to", "most_to", "step_cost", "turns_between", "common_count",
                  "free_count", "free_time", "rest_number", "seen_count", "web_time", "web_ends", "web_worth",
                  "freed_time", "painters_value", "garden_count", "come_number", "come_between"),
            bool: ("swings", "can_come", "is_end", "is_rest_an_end", "last_hand", "shows_paint", "shows_holds",
                   "is_free", "can_be_seen"),
            str: ("write_line",),
            list: ("befores", "ends", "free_ends"),
            type(None): ("least_before", "least_leader", "slowest_leader"),
        }
        whole = {name: kind for kind, names in others.items() for name in names}
        for function, right, _ in all_functions():
            self.assertIs(type(function(*right)), whole.get(function.__name__, tuple), function)


class TestDeskArguments(unittest.TestCase):
    def test_class_stands_in_its_file(self):
        self.assertEqual(desk.Desk.__module__, "flankturns.desk")
        self.assertEqual(list(inspect.signature(desk.Desk).parameters), ["line"])
        for name, parameters in (("run", ["self", "text"]), ("undo", ["self"]), ("redo", ["self"])):
            self.assertEqual(list(inspect.signature(vars(desk.Desk)[name]).parameters), parameters)

    def test_wrong_arguments(self):
        for wrong in NOTHING:
            with self.assertRaises(FlankError) as caught:
                desk.Desk(wrong)
            self.assertEqual(type(caught.exception).__name__, "BadLine", wrong)
            with self.assertRaises(FlankError) as caught:
                desk.Desk(LINE).run(wrong)
            self.assertEqual(type(caught.exception).__name__, "NotText", wrong)

    def test_arguments_are_not_modified(self):
        one = desk.Desk(LINE)
        for value in ANYTHING + BAD_CELLS + [value for value, _ in BAD_LINES]:
            kept = copy.deepcopy(value)
            for function in (desk.Desk, one.run):
                try:
                    function(value)
                except FlankError:
                    pass
            self.assertEqual(kind_of(value), kind_of(kept))
            self.assertEqual(value, kept)
        self.assertEqual([one.line, one.steps], [LINE, ()])
