"""Chances if each turn is that of one of the ready cells, all equally likely.

It is the same to go through all cells that are ready at first in any order, all orders being equally likely, and
to turn each one that is still ready. So what turns in one stretch does not depend on what turns in another one,
and chances are numbers of orders.
"""

from math import comb, factorial

from flankturns.checks import check_cell, check_line
from flankturns.errors import BadCell, TooMany
from flankturns.lines import ready_cells, swings
from flankturns.ratios import added, lowest
from flankturns.singles import changed_cells, insides, is_end
from flankturns.turnsets import left_around, plus, times

MOST_READY = 16


def orders_around(place, many):
    """For a cell that turns first of so many in a row: the cells left before and behind it, and the orders with both.

    The latter is the number of orders of all other cells for each pair of orders of those that are left.
    """
    before, behind = left_around(place, many)
    return before, behind, factorial(many - 1) // (factorial(before) * factorial(behind))


def orders_by_turns(most):
    """For each number of ready cells in a row up to the most: how many of their orders have 0, 1, .. of them turn."""
    table = [[1]]
    for many in range(1, most + 1):
        found = [0]
        for place in range(many):
            before, behind, ways = orders_around(place, many)
            found = plus(found, [0] + [ways * number for number in times(table[before], table[behind])])
        table.append(found)
    return table


def line_orders(line):
    """The numbers of orders that have 0, 1, .. cells of a line turn, and that of all orders.

    Of a line that swings only the orders with the same first cell are meant; all its cells are alike.
    """
    if swings(line):
        left = len(line[0]) - 3
        return [0] + orders_by_turns(left)[left], factorial(left)
    lengths = [len(inside) for inside in insides(line)]
    table = orders_by_turns(max(lengths, default=0))
    numbers, orders = [1], 1
    for length in lengths:
        numbers = times(numbers, table[length])
        orders *= factorial(length)
    return numbers, orders


def turns_chances(line):
    """The tuple of the chances of 0, 1, .. turns until no cell is ready."""
    check_line(line)
    numbers, orders = line_orders(line)
    return tuple([lowest(number, orders) for number in numbers])


def mean_turns(line):
    """The mean number of turns until no cell is ready."""
    check_line(line)
    numbers, orders = line_orders(line)
    return lowest(sum([many * number for many, number in enumerate(numbers)]), orders)


def row_chance(before, behind):
    """The chance that a cell turns which has so many ready cells before and behind it in a row.

    It turns unless a neighbour that comes ahead of it does, which does unless its other neighbour that comes ahead
    of it does, and so on: orders in which some cells on both sides come the later, the nearer they are to this one,
    which comes last of them, are counted and discounted by turns.
    """
    orders = factorial(before + behind + 1)
    found = 0
    for one in range(before + 1):
        for other in range(behind + 1):
            number = comb(one + other, one) * (orders // factorial(one + other + 1))
            found += -number if (one + other) % 2 else number
    return lowest(found, orders)


def turn_chance(line, cell):
    """The chance that a cell turns at all."""
    check_line(line)
    check_cell(cell, len(line[0]))
    if swings(line):
        number, parts = mean_turns(line)
        return lowest(number, parts * len(line[0]))
    for inside in insides(line):
        if cell in inside:
            place = inside.index(cell)
            return row_chance(place, len(inside) - 1 - place)
    return 0, 1


def set_orders(first, end, places, known):
    """How many orders of the cells in a row, from a first place up to an end, have just those at some places turn."""
    if end <= first:
        return 1
    if (first, end) not in known:
        found = 0
        for place in places:
            if first <= place < end:
                ways = orders_around(place - first, end - first)[2]
                before = set_orders(first, place - 1, places, known)
                found += ways * before * set_orders(place + 2, end, places, known)
        known[(first, end)] = found
    return known[(first, end)]


def end_orders(inside, changed):
    """How many orders of the ready cells in a row have just those turn that have changed, if they make an end."""
    places = [place for place, cell in enumerate(inside) if cell in changed]
    return set_orders(0, len(inside), places, {})


def end_chance(line, cells):
    """The chance of an end, 0 for colours that are none."""
    if not is_end(line, cells):
        return 0, 1
    many = len(cells)
    changed = changed_cells(line, cells)
    if swings(line):
        left = [[(first + 2 + k) % many for k in range(many - 3)] for first in changed]
        return lowest(sum([end_orders(some, changed) for some in left]), factorial(many - 3) * many)
    number, orders = 1, 1
    for inside in insides(line):
        number *= end_orders(inside, changed)
        orders *= factorial(len(inside))
    return lowest(number, orders)


def chance_ahead(ready, one, other, many, known):
    """The chance that a cell turns while another one has not, from the tuple of the cells that are ready."""
    if one not in ready:
        return 0, 1
    if ready not in known:
        found = (1, len(ready))
        for cell in ready:
            if cell not in (one, other):
                beside = ((cell - 1) % many, cell, (cell + 1) % many)
                left = tuple([k for k in ready if k not in beside])
                number, parts = chance_ahead(left, one, other, many, known)
                found = added(found, (number, parts * len(ready)))
        known[ready] = found
    return known[ready]


def first_chance(line, one, other):
    """The chance that a cell turns while another one has not turned."""
    check_line(line)
    check_cell(one, len(line[0]))
    check_cell(other, len(line[0]))
    if one == other:
        raise BadCell("the same cell twice")
    ready = ready_cells(line)
    if len(ready) > MOST_READY:
        raise TooMany(MOST_READY)
    parts = [ready] if swings(line) else insides(line)
    # What turns in other stretches does not matter.
    near = tuple([cell for part in parts if one in part or other in part for cell in part])
    return chance_ahead(near, one, other, len(line[0]), {})
