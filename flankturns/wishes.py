"""Colours that are wished when one cell turns at a time, and what they cost."""

from flankturns.checks import check_line, check_prices, check_wish
from flankturns.choices import count_choices, least_choice
from flankturns.hops import digits_of, place_worths
from flankturns.steps import turn_counts


def both_colours(line):
    """For each cell its colour, and the one that it has if it has turned."""
    cells = line[0]
    return [(cells[cell], cells[cell - 1]) for cell in range(len(cells))]


def wished_only(line, wish, pairs):
    """Pairs of costs, for each cell, of staying and turning, with None where that is not as wished."""
    found = []
    for colours, wished, costs in zip(both_colours(line), wish, pairs):
        found.append(tuple([cost if wished in (None, colour) else None for colour, cost in zip(colours, costs)]))
    return found


def wished_ends(line, wish):
    """The number of ends with the wished colours."""
    check_line(line)
    check_wish(wish, len(line[0]))
    numbers = [tuple([1 if wished in (None, colour) else 0 for colour in colours])
               for colours, wished in zip(both_colours(line), wish)]
    return count_choices(line, numbers, True)


def wished_end(line, wish):
    """The least end with the wished colours, None without any."""
    check_line(line)
    check_wish(wish, len(line[0]))
    found = least_choice(line, wished_only(line, wish, end_costs(line, (0,) * len(wish))), True)
    return None if found is None else digits_of(found, len(wish))


def end_costs(line, prices):
    """For each cell what staying and turning cost, the latter its price; the less, the lesser colours come of it."""
    worths = place_worths(len(prices))
    unit = 10 * worths[0]
    return [(own * worth, other * worth + price * unit)
            for (own, other), worth, price in zip(both_colours(line), worths, prices)]


def fewest_to(line, wish):
    """The least number of turns behind which a line has the wished colours, None if it cannot."""
    check_line(line)
    check_wish(wish, len(line[0]))
    return least_choice(line, wished_only(line, wish, [(0, 1)] * len(wish)), False)


def most_to(line, wish):
    """The greatest number of turns behind which a line has the wished colours, None if it cannot."""
    check_line(line)
    check_wish(wish, len(line[0]))
    found = least_choice(line, wished_only(line, wish, [(0, -1)] * len(wish)), False)
    return None if found is None else -found


def least_end(line, prices):
    """The pair (cost, cells) of the least cost of an end, and the least end with it."""
    unit = 10 * place_worths(len(prices))[0]
    found = least_choice(line, end_costs(line, prices), True)
    return found // unit, digits_of(found % unit, len(prices))


def cheapest_end(line, prices):
    """The pair (cost, cells) of the least cost of an end, and the least end with it."""
    check_line(line)
    check_prices(prices, len(line[0]))
    return least_end(line, prices)


def dearest_end(line, prices):
    """The pair (cost, cells) of the greatest cost of an end, and the least end with it."""
    check_line(line)
    check_prices(prices, len(line[0]))
    cost, cells = least_end(line, [-price for price in prices])
    return -cost, cells


def step_cost(line, prices):
    """What all turns of all cells cost until a line is at rest by steps."""
    check_line(line)
    check_prices(prices, len(line[0]))
    return sum([often * price for often, price in zip(turn_counts(line), prices)])
