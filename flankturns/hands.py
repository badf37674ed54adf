"""Two hands that turn ready cells in turn, one at a time."""

from flankturns.checks import check_flag, check_line
from flankturns.errors import TooMany
from flankturns.lines import ready_cells, swings, turned
from flankturns.singles import insides
from flankturns.turnsets import left_around

MOST_READY = 16


def least_missing(numbers):
    """The least integer from 0 on that is not among some numbers."""
    found = 0
    while found in numbers:
        found += 1
    return found


def row_worths(most):
    """For each number of ready cells in a row up to the most, what they are worth."""
    worths = []
    for many in range(most + 1):
        pairs = [left_around(place, many) for place in range(many)]
        worths.append(least_missing([worths[before] ^ worths[behind] for before, behind in pairs]))
    return worths


def worth(line):
    """The least integer from 0 on that is not the worth of a line one turn further."""
    check_line(line)
    many = len(line[0])
    worths = row_worths(many)
    if swings(line):
        # All cells are alike: each turn leaves as many ready ones in a row.
        return least_missing([worths[many - 3]])
    found = 0
    for inside in insides(line):
        found ^= worths[len(inside)]
    return found


def last_hand(line):
    """Whether the hand that turns first can win."""
    return worth(line) != 0


def winning_cells(line):
    """The ascending tuple of the cells that a hand can turn such that the other one cannot win."""
    return tuple([cell for cell in ready_cells(line) if not last_hand(turned(line, cell))])


def further(lengths):
    """What one turn makes of some lengths, each the number of ready cells in a row; ascending tuples."""
    found = []
    for at, many in enumerate(lengths):
        others = lengths[:at] + lengths[at + 1:]
        # The other half of the places leave the same.
        for place in range((many + 1) // 2):
            some = others + left_around(place, many)
            found.append(tuple(sorted([length for length in some if length])))
    return found


def best_turns(lengths, is_more, known):
    """How many turns are made of some lengths if the hand that turns next wants many (is_more is True) or few."""
    if not lengths:
        return 0
    key = (lengths, is_more)
    if key not in known:
        values = [best_turns(some, not is_more, known) for some in further(lengths)]
        known[key] = 1 + (max(values) if is_more else min(values))
    return known[key]


def turns_value(line, is_more):
    """The number of turns if one hand wants many and the other one few; is_more tells which one turns first."""
    check_line(line)
    check_flag(is_more)
    ready = ready_cells(line)
    if len(ready) > MOST_READY:
        raise TooMany(MOST_READY)
    if swings(line):
        left = len(ready) - 3
        return 1 + best_turns((left,), not is_more, {})
    lengths = tuple(sorted([len(inside) for inside in insides(line)]))
    return best_turns(lengths, is_more, {})
