"""Promise 1: what holds for every call."""

import copy
import inspect
import unittest

from flankturns import frames, leaders, lines, linetext, masses, pasts, singles, steps
from flankturns.errors import FlankError
from tests.tools import ANYTHING, BAD_CELLS, BAD_FRAMES, BAD_LINES

LINE = ((0, 1, 0, 1, 0), (), False)
FRAME = (5, (), False)
COLOURS = (0, 1, 1, 1, 0)

# For each function of the interface arguments that are right.
RIGHT = {
    lines: {"ready_cells": (LINE,), "turned": (LINE, 2), "stretches": (LINE,), "swings": (LINE,), "depths": (LINE,)},
    linetext: {"write_line": (LINE,), "read_line": ("01*0o",)},
    steps: {"step": (LINE,), "after": (LINE, 2), "rest": (LINE,), "rest_time": (LINE,), "turn_counts": (LINE,),
            "turns_by": (LINE, 2), "changes": (LINE,), "last_turned": (LINE,), "colour_at": (LINE, 2, 2)},
    masses: {"masses": (LINE,), "gains": (LINE,), "borders": (LINE,), "lost_borders": (LINE,)},
    pasts: {"before_count": (LINE, 2), "least_before": (LINE, 2), "befores": (LINE, 2), "past": (LINE, 2, 2)},
    leaders: {"leader_count": (LINE, 2), "leaders_by_time": (LINE, 2), "least_leader": (LINE, 2),
              "slowest_leader": (LINE, 2)},
    frames: {"most_time": (FRAME,), "resting_count": (FRAME, 2), "lines_by_time": (FRAME, 2),
             "swinging_count": (FRAME, 2), "mean_time": (FRAME, 2)},
    singles: {"can_come": (LINE, COLOURS), "is_end": (LINE, COLOURS), "come_count": (LINE,), "end_count": (LINE,),
              "comes_by_turns": (LINE,), "ends_by_turns": (LINE,), "ends": (LINE,), "fewest_turns": (LINE,),
              "most_turns": (LINE,), "ways_to": (LINE, COLOURS), "ways_in_all": (LINE,), "end_with": (LINE, 2),
              "is_rest_an_end": (LINE,)},
}

# The errors for values that are nothing that could be asked for, by the names of arguments.
WRONG = {"line": "BadLine", "cell": "BadCell", "many": "BadTime", "colours": "BadCount", "cells": "BadCells",
         "frame": "BadFrame", "text": "NotText"}
COUNTS = ("end_with",)


def all_functions():
    """The functions of the interface with right arguments and the names of their wrong ones' errors."""
    for module, table in RIGHT.items():
        for name, right in table.items():
            function = getattr(module, name)
            names = list(inspect.signature(function).parameters)
            wanted = ["BadCount" if name in COUNTS and one == "many" else WRONG[one] for one in names]
            yield function, right, wanted


def kind_of(value):
    """The kind of a value, told for all that it contains."""
    if isinstance(value, (tuple, list)):
        return type(value), [kind_of(one) for one in value]
    return type(value)


class TestArguments(unittest.TestCase):
    def test_functions_stand_in_their_files(self):
        for function, right, _ in all_functions():
            self.assertIn(f"flankturns.{function.__module__.rsplit('.')[-1]}", [one.__name__ for one in RIGHT])
            self.assertEqual(len(inspect.signature(function).parameters), len(right), function)
        for module, table in RIGHT.items():
            for name in table:
                self.assertEqual(getattr(module, name).__module__, module.__name__, name)

    def test_leftmost_wrong_argument(self):
        for function, right, wanted in all_functions():
            for place, name in enumerate(wanted):
                for wrong in (None, -1, [], {}, (), True, 10 ** 30):
                    arguments = right[:place] + (wrong,) * (len(right) - place)
                    with self.assertRaises(FlankError) as caught:
                        function(*arguments)
                    self.assertEqual(type(caught.exception).__name__, name, (function, arguments))

    def test_one_wrong_argument(self):
        for function, right, wanted in all_functions():
            for place, name in enumerate(wanted):
                for wrong in (None, -1, [], {}, (), True, False, 10 ** 30, (None,), [0], {0: 0}):
                    arguments = right[:place] + (wrong,) + right[place + 1:]
                    with self.assertRaises(FlankError) as caught:
                        function(*arguments)
                    self.assertEqual(type(caught.exception).__name__, name, (function, arguments))

    def test_arguments_are_not_modified(self):
        values = ANYTHING + BAD_CELLS + BAD_FRAMES + [value for value, _ in BAD_LINES]
        for function, right, _ in all_functions():
            for place in range(len(right)):
                for value in values:
                    kept = copy.deepcopy(value)
                    try:
                        function(*right[:place], value, *right[place + 1:])
                    except FlankError:
                        pass
                    self.assertEqual(kind_of(value), kind_of(kept))
                    self.assertEqual(value, kept)

    def test_equal_arguments_have_equal_answers(self):
        for function, right, _ in all_functions():
            first = function(*right)
            again = function(*copy.deepcopy(right))
            self.assertEqual(first, again)
            self.assertEqual(kind_of(first), kind_of(again))
            if isinstance(first, list):
                self.assertIsNot(first, function(*right))

    def test_kinds_of_answers(self):
        whole = {"rest_time": int, "colour_at": int, "borders": int, "lost_borders": int, "before_count": int,
                 "past": int, "leader_count": int, "most_time": int, "resting_count": int, "swinging_count": int,
                 "come_count": int, "end_count": int, "fewest_turns": int, "most_turns": int, "ways_to": int,
                 "ways_in_all": int, "swings": bool, "can_come": bool, "is_end": bool, "is_rest_an_end": bool,
                 "write_line": str, "befores": list, "ends": list, "least_before": type(None),
                 "least_leader": type(None), "slowest_leader": type(None)}
        for function, right, _ in all_functions():
            self.assertIs(type(function(*right)), whole.get(function.__name__, tuple), function)
