"""How many cells have which colour, and how many neighbours unlike ones."""

from flankturns.checks import check_line
from flankturns.steps import rest


def masses(line):
    """The ascending tuple of the pairs (colour, number) of all colours that a line has."""
    check_line(line)
    cells = line[0]
    return tuple([(colour, cells.count(colour)) for colour in sorted(set(cells))])


def gains(line):
    """The ascending tuple of the pairs (colour, how many more cells have it at rest)."""
    resting = rest(line)[0]
    return tuple([(colour, resting.count(colour) - number) for colour, number in masses(line)])


def borders(line):
    """The number of pairs of neighbours of unlike colours."""
    check_line(line)
    cells, _, is_ring = line
    behind = cells[1:] + cells[:1] if is_ring else cells[1:]
    return len([1 for one, other in zip(cells, behind) if one != other])


def lost_borders(line):
    """How many fewer borders a line has when it is at rest."""
    return borders(line) - borders(rest(line))
