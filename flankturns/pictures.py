"""Pictures: the texts of a line, step by step."""

from flankturns.errors import InvalidText
from flankturns.lines import swings
from flankturns.linetext import read_line, write_line
from flankturns.steps import after, rest_time


def picture(line):
    """The texts of a line at first and behind 1, 2, .. steps until it is at rest; two of one that swings."""
    last = 1 if swings(line) else rest_time(line)
    return tuple([write_line(after(line, many)) for many in range(last + 1)])


def read_picture(some):
    """The line of which a value is the picture, None for a value that is none."""
    if not isinstance(some, tuple) or not some or not isinstance(some[0], str):
        return None
    try:
        line = read_line(some[0])
    except InvalidText:
        return None
    return line if picture(line) == some else None
