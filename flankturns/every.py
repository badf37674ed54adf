"""All lines with a frame and some colours, told one by one if they are few."""

from flankturns.errors import TooMany

MOST_LINES = 20000


def check_few_lines(frame, colours):
    """TooMany for a frame with too many lines of some colours for all of them to be told."""
    lines = 1
    for _ in range(frame[0]):
        lines *= colours
    if lines > MOST_LINES:
        raise TooMany(MOST_LINES)


def all_cells(many, colours):
    """The ascending list of all tuples of some colours for so many cells."""
    found = [()]
    for _ in range(many):
        found = [cells + (colour,) for cells in found for colour in range(colours)]
    return found
