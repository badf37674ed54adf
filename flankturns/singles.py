"""One ready cell turning at a time: the colours that can come, and the ends among them."""

from math import factorial

from flankturns.checks import check_cells, check_count, check_line
from flankturns.errors import TooMany
from flankturns.lines import ready_cells, stretches, swings
from flankturns.steps import rest
from flankturns.turnsets import ring_comes, ring_ends, ring_sets, row_comes, row_ends, row_sets, times

MOST_ENDS = 2000


def insides(line):
    """The tuples of cells inside that are neighbours in a row."""
    return [stretch[1:-1] for stretch in stretches(line)]


def changed_cells(line, cells):
    """The cells that have another colour than in a line."""
    return [cell for cell, colour in enumerate(line[0]) if cells[cell] != colour]


def can_come(line, cells):
    """Whether a line can have some colours behind some turns, one at a time."""
    check_line(line)
    check_cells(cells, len(line[0]))
    own = line[0]
    inside = ready_cells(line)
    changed = changed_cells(line, cells)
    # The cell ahead of one that has turned has not: it still has the colour that the cell took.
    return all([cell in inside and own[cell - 1] == cells[cell - 1] == cells[cell] for cell in changed])


def is_end(line, cells):
    """Whether some colours can come and no cell is ready then."""
    if not can_come(line, cells):
        return False
    many = len(cells)
    changed = changed_cells(line, cells)
    done = [(cell + by) % many for cell in changed for by in (-1, 0, 1)]
    return all([cell in done for cell in ready_cells(line)])


def comes_by_turns(line):
    """The tuple of how many colours need 0, 1, .. turns to come."""
    check_line(line)
    if swings(line):
        return tuple(ring_comes(len(line[0])))
    found = [1]
    for inside in insides(line):
        found = times(found, row_comes(len(inside)))
    return tuple(found)


def ends_by_turns(line):
    """The tuple of how many ends need 0, 1, .. turns."""
    check_line(line)
    if swings(line):
        return tuple(ring_ends(len(line[0])))
    found = [1]
    for inside in insides(line):
        found = times(found, row_ends(len(inside)))
    return tuple(found)


def come_count(line):
    """The number of colours that can come."""
    return sum(comes_by_turns(line))


def end_count(line):
    """The number of ends."""
    return sum(ends_by_turns(line))


def end_sets(line):
    """The tuples of cells that have turned at an end, for all ends."""
    if swings(line):
        return ring_sets(tuple(range(len(line[0]))))
    found = [()]
    for inside in insides(line):
        some = row_sets(inside)
        found = [one + other for one in found for other in some]
    return found


def colours_with(line, turned):
    """The colours of a line in which just some cells have turned."""
    cells = line[0]
    return tuple([cells[k - 1] if k in turned else colour for k, colour in enumerate(cells)])


def ends(line):
    """The ascending list of all ends."""
    if end_count(line) > MOST_ENDS:
        raise TooMany(MOST_ENDS)
    return sorted([colours_with(line, turned) for turned in end_sets(line)])


def fewest_turns(line):
    """The least number of turns behind which no cell is ready."""
    return min([many for many, number in enumerate(ends_by_turns(line)) if number])


def most_turns(line):
    """The greatest number of turns behind which no cell is ready."""
    return len(ends_by_turns(line)) - 1


def ways_to(line, cells):
    """The number of orders in which cells can turn so that some colours come, 0 if they cannot."""
    if not can_come(line, cells):
        return 0
    # No two of the cells are neighbours, so none of them is in another one's way.
    return factorial(len(changed_cells(line, cells)))


def ways_in_all(line):
    """The sum of the numbers of orders over all ends."""
    return sum([number * factorial(many) for many, number in enumerate(ends_by_turns(line))])


def end_with(line, many):
    """The least end with a number of turns, None if there is none."""
    check_line(line)
    check_count(many, 0, 40)
    for cells in ends(line):
        if len(changed_cells(line, cells)) == many:
            return cells
    return None


def is_rest_an_end(line):
    """Whether the line at rest by steps is an end of one at a time."""
    return is_end(line, rest(line)[0])
