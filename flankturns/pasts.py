"""Colours that are a line behind some steps."""

from flankturns.checks import check_colours, check_line, check_time
from flankturns.errors import TooMany
from flankturns.hops import digits_of
from flankturns.lines import swings
from flankturns.paths import CountPaths, LeastPaths, ListPaths
from flankturns.steps import after

MOST_BEFORES = 2000


def past_count(line, colours, many):
    """The number of colours that lead to a line in so many steps."""
    if max(line[0]) >= colours:
        return 0
    # Only a line that swings leads to one that does, as a cell that never turns is never ready.
    if swings(line):
        return 1
    return CountPaths(line, list(range(colours)), many).told(False)


def before_count(line, colours):
    """The number of befores of a line."""
    check_line(line)
    check_colours(colours)
    return past_count(line, colours, 1)


def least_before(line, colours):
    """The least before of a line, None without any."""
    check_line(line)
    check_colours(colours)
    if max(line[0]) >= colours:
        return None
    if swings(line):
        return after(line, 1)[0]
    least = LeastPaths(line, list(range(colours)), 1).told(False)
    return None if least is None else digits_of(least, len(line[0]))


def befores(line, colours):
    """The ascending list of all befores of a line."""
    number = before_count(line, colours)
    if number > MOST_BEFORES:
        raise TooMany(MOST_BEFORES)
    if number == 0:
        return []
    if swings(line):
        return [after(line, 1)[0]]
    worths = ListPaths(line, list(range(colours)), 1).told(False)
    return [digits_of(worth, len(line[0])) for worth in sorted(worths)]


def past(line, colours, many):
    """The number of colours that lead to a line in just so many steps."""
    check_line(line)
    check_colours(colours)
    check_time(many, 12)
    for fewer in range(many):
        if past_count(line, colours, fewer) > MOST_BEFORES:
            raise TooMany(MOST_BEFORES)
    return past_count(line, colours, many)
