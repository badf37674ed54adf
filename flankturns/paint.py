"""Cells that are painted ahead of the steps."""

from flankturns.cheapest import least_cost
from flankturns.checks import check_colours, check_line, check_prices, check_wish, is_within
from flankturns.circles import Circle
from flankturns.hops import digits_of, place_worths
from flankturns.lines import swings
from flankturns.steps import rest
from flankturns.wishing import comes_to


def best_paint(line, wish, prices, colours):
    """The pair (cost, cells) of the least cost of painting for a wish, and the least such colours, or None."""
    cells, held, is_ring = line
    many = len(cells)
    worths = place_worths(many)
    # One more for a price weighs more than all colours.
    unit = 10 * worths[0]
    firsts = [sorted(set([own] + list(range(colours)))) for own in cells]
    costs = []
    for cell, own in enumerate(cells):
        painted = {colour: prices[cell] * unit + colour * worths[cell] for colour in firsts[cell]}
        painted[own] = own * worths[cell]
        costs.append(painted)
    found = least_cost(Circle((many, held, is_ring), firsts, wish, many), costs)
    if found is None:
        return None
    return found // unit, digits_of(found % unit, many)


def cheapest_paint(line, wish, prices, colours):
    """The pair (cost, cells) of the least cost of painting for a wish, and the least such colours, or None."""
    check_line(line)
    check_wish(wish, len(line[0]))
    check_prices(prices, len(line[0]))
    check_colours(colours)
    return best_paint(line, wish, prices, colours)


def is_paint(line, cells, colours):
    """Whether a value is the colours of a line behind a painting with some colours."""
    if not isinstance(cells, tuple) or len(cells) != len(line[0]):
        return False
    if not all([is_within(colour, 0, 9) for colour in cells]):
        return False
    return all([colour == own or colour < colours for colour, own in zip(cells, line[0])])


def shows_paint(line, wish, prices, colours, value):
    """Whether a value is what cheapest_paint may return, but of any colours with the least cost."""
    best = cheapest_paint(line, wish, prices, colours)
    if best is None or value is None:
        return best is None and value is None
    if not isinstance(value, tuple) or len(value) != 2:
        return False
    cost, cells = value
    if not is_within(cost, best[0], best[0]) or not is_paint(line, cells, colours):
        return False
    spent = [price for price, colour, own in zip(prices, cells, line[0]) if colour != own]
    return sum(spent) == cost and comes_to((cells, line[1], line[2]), wish)


def least_painted(line, wish, colours):
    """The least number of painted cells with which a line comes to rest as wished, None if it can't be."""
    best = best_paint(line, wish, (1,) * len(line[0]), colours)
    return None if best is None else best[0]


def fewest_painted(line, wish, colours):
    """The least number of painted cells with which a line comes to rest as wished, None if it can't be."""
    check_line(line)
    check_wish(wish, len(line[0]))
    check_colours(colours)
    return least_painted(line, wish, colours)


def one_colour(line, colours):
    """The pairs (colour, least number of painted cells to rest with it alone), ascending."""
    check_line(line)
    check_colours(colours)
    many = len(line[0])
    return tuple([(colour, least_painted(line, (colour,) * many, colours)) for colour in range(colours)])


def changed_by_one(line, resting, colours):
    """A dict of the cells that come to rest with another colour if some one cell is painted."""
    cells, held, is_ring = line
    found = {}
    for painted, own in enumerate(cells):
        for colour in range(colours):
            other = (cells[:painted] + (colour,) + cells[painted + 1:], held, is_ring)
            if colour != own and not swings(other):
                for cell, behind in enumerate(rest(other)[0]):
                    if behind != resting[cell]:
                        found[cell] = True
    return found


def kept_cells(line, colours):
    """For each cell the least number of painted cells with which it rests with another colour, or None."""
    check_line(line)
    check_colours(colours)
    resting = rest(line)[0]
    by_one = changed_by_one(line, resting, colours)
    found = []
    for cell, colour in enumerate(resting):
        if cell in by_one:
            found.append(1)
        elif colours == 1 and colour == 0:
            # Cells that are painted with the colour 0 alone never take 0 away from another cell.
            found.append(None)
        else:
            # The cell and a neighbour never turn if both are painted with one colour.
            found.append(2)
    return tuple(found)
