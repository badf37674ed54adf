"""Lines, their ready cells and their stretches."""

from flankturns.checks import check_cell, check_line
from flankturns.errors import BadCell, Swings


def free_marks(many, held, is_ring):
    """For each cell whether it may turn: it is not held, and no end of a row."""
    marks = [cell not in held for cell in range(many)]
    if not is_ring:
        marks[0] = marks[-1] = False
    return marks


def frame_of(line):
    """The frame of a line."""
    cells, held, is_ring = line
    return len(cells), held, is_ring


def ready_marks(line):
    """For each cell whether it is ready."""
    cells, held, is_ring = line
    many = len(cells)
    free = free_marks(many, held, is_ring)
    return [free[k] and cells[k - 1] == cells[(k + 1) % many] != cells[k] for k in range(many)]


def ready_cells(line):
    """The ascending tuple of the ready cells."""
    check_line(line)
    return tuple([cell for cell, is_ready in enumerate(ready_marks(line)) if is_ready])


def turned(line, cell):
    """The line in which a ready cell has turned."""
    check_line(line)
    cells, held, is_ring = line
    check_cell(cell, len(cells))
    if not ready_marks(line)[cell]:
        raise BadCell("the cell is not ready")
    return cells[:cell] + (cells[cell - 1],) + cells[cell + 1:], held, is_ring


def stretch_around(ready, first):
    """The stretch whose first ready cell is given: all ready cells on from it, and one more at both ends."""
    many = len(ready)
    inside = 1
    while ready[(first + inside) % many]:
        inside += 1
    return tuple([(first - 1 + k) % many for k in range(inside + 2)])


def stretches(line):
    """The ascending tuple of all stretches."""
    check_line(line)
    ready = ready_marks(line)
    # A ring that swings has no cell that is not ready, so that no stretch begins in it.
    firsts = [cell for cell in range(len(ready)) if ready[cell] and not ready[cell - 1]]
    return tuple(sorted([stretch_around(ready, first) for first in firsts]))


def swings(line):
    """Whether a line never comes to rest."""
    check_line(line)
    return all(ready_marks(line))


def depths(line):
    """The tuple, for each cell, of how many cells it is from the nearer end of its stretch."""
    if swings(line):
        raise Swings("the line has no stretches")
    found = [0] * len(line[0])
    for stretch in stretches(line):
        for place, cell in enumerate(stretch):
            found[cell] = min(place, len(stretch) - 1 - place)
    return tuple(found)
