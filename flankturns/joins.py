"""Lines joined and changed."""

from flankturns.checks import check_cell, check_line, check_names, check_ring, check_row
from flankturns.errors import BadCell, TooMany

MOST_CELLS = 40


def check_size(many):
    """TooMany for more cells than a line can have."""
    if many > MOST_CELLS:
        raise TooMany(MOST_CELLS)


def joined(one, other):
    """The row of the cells of two rows, side by side."""
    check_row(one)
    check_row(other)
    many = len(one[0])
    check_size(many + len(other[0]))
    return one[0] + other[0], one[1] + tuple([many + cell for cell in other[1]]), False


def mirrored(line):
    """The line with its cells in the other direction."""
    check_line(line)
    cells, held, is_ring = line
    return cells[::-1], tuple([len(cells) - 1 - cell for cell in held[::-1]]), is_ring


def shifted(line, by):
    """The ring whose cell k is the cell k + by of a ring."""
    check_ring(line)
    cells, held, is_ring = line
    check_cell(by, len(cells))
    return cells[by:] + cells[:by], tuple(sorted([(cell - by) % len(cells) for cell in held])), is_ring


def opened(line, cell):
    """The row from a held cell of a ring once around to it again."""
    check_ring(line)
    cells, held, _ = line
    check_cell(cell, len(cells))
    if cell not in held:
        raise BadCell("the cell is not held")
    check_size(len(cells) + 1)
    others = sorted([(other - cell) % len(cells) for other in held if other != cell])
    return cells[cell:] + cells[:cell + 1], tuple(others), False


def renamed(line, names):
    """The line with other colours, each one named by names."""
    check_line(line)
    check_names(names)
    cells, held, is_ring = line
    return tuple([names[colour] for colour in cells]), held, is_ring
