"""Cells that are held besides, and what comes of it."""

from itertools import combinations

from flankturns.checks import are_cells, check_held, check_line, check_wish, is_within
from flankturns.errors import TooMany
from flankturns.lines import ready_cells
from flankturns.steps import rest
from flankturns.wishing import comes_to

MOST_READY = 12


def with_held(line, cells):
    """A line with some cells held, too."""
    colours, held, is_ring = line
    return colours, tuple(sorted(set(held + cells))), is_ring


def least_holds(line, wish):
    """The pair (number, cells) of the least number of cells to hold for a wish, and the least such cells, or None."""
    ready = ready_cells(line)
    # A cell that is not ready at first never turns, so that it need not be held.
    for number in range(len(ready) + 1):
        for cells in combinations(list(ready), number):
            if comes_to(with_held(line, cells), wish):
                return number, cells
    return None


def check_few(line):
    """TooMany if a line has too many ready cells for all of their sets to be tried."""
    if len(ready_cells(line)) > MOST_READY:
        raise TooMany(MOST_READY)


def fewest_holds(line, wish):
    """The pair (number, cells) of the least number of cells to hold for a wish, and the least such cells, or None."""
    check_line(line)
    check_wish(wish, len(line[0]))
    check_few(line)
    return least_holds(line, wish)


def shows_holds(line, wish, value):
    """Whether a value is what fewest_holds may return, but of any cells with the least number."""
    least = fewest_holds(line, wish)
    if least is None or value is None:
        return least is None and value is None
    if not isinstance(value, tuple) or len(value) != 2:
        return False
    number, cells = value
    if not is_within(number, least[0], least[0]) or not are_cells(cells, len(line[0])):
        return False
    return len(cells) == number and comes_to(with_held(line, cells), wish)


def held_rest(line, cells):
    """The line at rest with some cells held, too."""
    check_line(line)
    check_held(cells, len(line[0]))
    return rest(with_held(line, cells))


def hold_effects(line):
    """For each cell how many cells come to rest with another colour if it is held, too."""
    resting = rest(line)[0]
    found = []
    for cell in range(len(resting)):
        behind = rest(with_held(line, (cell,)))[0]
        found.append(len([1 for one, other in zip(resting, behind) if one != other]))
    return tuple(found)
