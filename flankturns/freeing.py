"""Cells that are held for some steps, and free again behind them."""

from flankturns.checks import check_held, check_line
from flankturns.holds import with_held
from flankturns.steps import after, rest, rest_time


def line_freed(line, cells, many):
    """The line behind so many steps in which some cells are held, too."""
    check_line(line)
    check_held(cells, len(line[0]))
    return after(with_held(line, cells), many)[0], line[1], line[2]


def freed_rest(line, cells, many):
    """The line at rest if some cells are held, too, for so many steps."""
    return rest(line_freed(line, cells, many))


def freed_time(line, cells, many):
    """The number of steps until the line is at rest for good if some cells are held, too, for so many steps."""
    return many + rest_time(line_freed(line, cells, many))
