"""Choices of cells that turn one at a time: inside a line no two neighbours, each cell once; at an end, as many as can.

A choice is told cell by cell. A cell has turned, or it stands behind one that has, or else it still could turn if
the one behind it does not.
"""

from flankturns.lines import ready_cells, swings
from flankturns.singles import insides

TURNED = 0
BEHIND = 1
ALONE = 2


def ways_behind(way, is_end):
    """How the cell behind one can be, by how this one is; pairs of that, and whether the cell has turned then."""
    if way == TURNED:
        return ((BEHIND, 0),)
    if way == ALONE:
        return ((TURNED, 1),)
    return ((TURNED, 1), (ALONE if is_end else BEHIND, 0))


def parts_of(line):
    """The tuples of cells inside that are neighbours, each with its pairs (way at first, ways at last)."""
    if swings(line):
        return [(tuple(range(len(line[0]))), [(way, (way,)) for way in (TURNED, BEHIND, ALONE)])]
    return [(inside, [(BEHIND, (TURNED, BEHIND))]) for inside in insides(line)]


def count_part(part, numbers, is_end):
    """The number of choices in a part; numbers are, for each cell, whether it may stay and whether it may turn."""
    cells, ways = part
    total = 0
    for first, last in ways:
        found = [1 if way == first else 0 for way in (TURNED, BEHIND, ALONE)]
        for cell in cells:
            behind = [0, 0, 0]
            for way, many in enumerate(found):
                for other, is_turned in ways_behind(way, is_end):
                    behind[other] += many * numbers[cell][is_turned]
            found = behind
        total += sum([found[way] for way in last])
    return total


def least_part(part, costs, is_end):
    """The least cost of a choice in a part, None without any; costs of staying or turning are None if it can't be."""
    cells, ways = part
    totals = []
    for first, last in ways:
        found = {first: 0}
        for cell in cells:
            behind = {}
            for way, cost in found.items():
                for other, is_turned in ways_behind(way, is_end):
                    more = costs[cell][is_turned]
                    if more is not None:
                        behind[other] = min(cost + more, behind.get(other, cost + more))
            found = behind
        totals += [found[way] for way in last if way in found]
    return min(totals, default=None)


def count_choices(line, numbers, is_end):
    """The number of choices in a line; numbers are, for each cell, whether it may stay and whether it may turn."""
    ready = ready_cells(line)
    found = 1
    for cell, (number, _) in enumerate(numbers):
        found *= 1 if cell in ready else number
    for part in parts_of(line):
        found *= count_part(part, numbers, is_end)
    return found


def least_choice(line, costs, is_end):
    """The least cost of a choice in a line, None without any; costs of staying or turning are None if it can't be."""
    ready = ready_cells(line)
    found = [cost for cell, (cost, _) in enumerate(costs) if cell not in ready]
    found += [least_part(part, costs, is_end) for part in parts_of(line)]
    return None if None in found else sum(found)
