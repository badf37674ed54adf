"""Steps, in which all ready cells turn at once."""

from flankturns.checks import check_cell, check_line, check_time
from flankturns.lines import depths, swings

MOST_STEPS = 1000000


def turns_within(line, many):
    """For each cell how often it turns in so many steps."""
    # A cell inside a stretch turns in each of the first steps, as many as its depth, and never again.
    if swings(line):
        return (many,) * len(line[0])
    return tuple([min(depth, many) for depth in depths(line)])


def line_behind(line, turns):
    """The line in which each cell has turned so often."""
    cells, held, is_ring = line
    # With each turn a cell changes between its own colour and that of both its neighbours.
    colours = tuple([cells[k - 1] if turns[k] % 2 else cells[k] for k in range(len(cells))])
    return colours, held, is_ring


def step(line):
    """The line behind a step."""
    return after(line, 1)


def after(line, many):
    """The line behind a number of steps."""
    check_line(line)
    check_time(many, MOST_STEPS)
    return line_behind(line, turns_within(line, many))


def rest(line):
    """The line to which a line comes at last."""
    return line_behind(line, turn_counts(line))


def rest_time(line):
    """The least number of steps behind which a line is at rest."""
    return max(turn_counts(line))


def turn_counts(line):
    """For each cell how often it turns until the line is at rest."""
    return depths(line)


def turns_by(line, many):
    """For each cell how often it turns in so many steps."""
    check_line(line)
    check_time(many, MOST_STEPS)
    return turns_within(line, many)


def changes(line):
    """How many cells turn in the steps 1, 2, .., until the line is at rest."""
    turns = turn_counts(line)
    return tuple([len([often for often in turns if often > past]) for past in range(max(turns))])


def last_turned(line):
    """The ascending tuple of the cells that turn in the last step in which one does."""
    turns = turn_counts(line)
    most = max(turns)
    return tuple([cell for cell, often in enumerate(turns) if 0 < often == most])


def colour_at(line, cell, many):
    """The colour of a cell behind a number of steps."""
    check_line(line)
    check_cell(cell, len(line[0]))
    return after(line, many)[0][cell]
