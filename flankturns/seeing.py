"""The colours that one cell shows, step by step."""

from flankturns.checks import check_cell, check_colours, check_frame, check_line, check_seen, check_time
from flankturns.every import all_cells, check_few_lines
from flankturns.steps import turns_within


def shown(line, cell, many):
    """The tuple of the colours of a cell at first and behind 1, 2, .. up to so many steps."""
    cells = line[0]
    turns = turns_within(line, many)[cell]
    # With each turn a cell changes between its own colour and that of both its neighbours.
    return tuple([cells[cell - min(past, turns) % 2] for past in range(many + 1)])


def seen(line, cell, many):
    """The tuple of the colours of a cell at first and behind 1, 2, .. up to so many steps."""
    check_line(line)
    check_cell(cell, len(line[0]))
    check_time(many, 40)
    return shown(line, cell, many)


def seen_count(frame, colours, cell, told):
    """How many lines with a frame and some colours show the told colours of a cell."""
    check_frame(frame)
    check_colours(colours)
    check_cell(cell, frame[0])
    check_seen(told)
    check_few_lines(frame, colours)
    many, held, is_ring = frame
    lines = [(cells, held, is_ring) for cells in all_cells(many, colours) if cells[cell] == told[0]]
    return len([1 for line in lines if shown(line, cell, len(told) - 1) == told])


def can_be_seen(told):
    """Whether a cell of any line, of however many cells, could show the told colours."""
    check_seen(told)
    place = 1
    while place < len(told) and told[place] != told[place - 1] and told[place] == told[place % 2]:
        place += 1
    return all([colour == told[place - 1] for colour in told[place:]])
