"""Two painters, who paint the cells of a frame in turn ahead of the steps."""

from flankturns.checks import check_frame, check_painted
from flankturns.errors import TooMany
from flankturns.lines import swings
from flankturns.steps import rest

MOST_CELLS = 8


def check_painters(frame, painted):
    """The errors of both functions below."""
    check_frame(frame)
    check_painted(painted, frame[0])
    if frame[0] > MOST_CELLS:
        raise TooMany(MOST_CELLS)


def difference(line):
    """How many cells more have 0 than 1 when a line is at rest, 0 if it swings."""
    if swings(line):
        return 0
    cells = rest(line)[0]
    return cells.count(0) - cells.count(1)


def next_colour(painted):
    """The colour with which the next painter paints."""
    return 0 if painted.count(0) == painted.count(1) else 1


def values_of(frame, painted, known):
    """The ascending pairs of cells that can be painted next and what comes of it if both do their best."""
    colour = next_colour(painted)
    found = []
    for cell, own in enumerate(painted):
        if own is None:
            behind = painted[:cell] + (colour,) + painted[cell + 1:]
            found.append((cell, best_value(frame, behind, known)))
    return found


def best_value(frame, painted, known):
    """The difference at last if both painters do their best from some painted cells on."""
    if None not in painted:
        return difference((painted, frame[1], frame[2]))
    if painted not in known:
        values = [value for _, value in values_of(frame, painted, known)]
        known[painted] = min(values) if next_colour(painted) else max(values)
    return known[painted]


def painters_value(frame, painted):
    """The difference at last if both painters do their best."""
    check_painters(frame, painted)
    return best_value(frame, painted, {})


def painters_cells(frame, painted):
    """The ascending tuple of the best cells for the next painter, () if all are painted."""
    check_painters(frame, painted)
    known = {}
    best = best_value(frame, painted, known)
    return tuple([cell for cell, value in values_of(frame, painted, known) if value == best])
