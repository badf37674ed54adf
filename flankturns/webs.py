"""Webs: some lines beside each other."""

from flankturns.chances import mean_turns
from flankturns.checks import check_web
from flankturns.hands import worth
from flankturns.lines import ready_cells, turned
from flankturns.ratios import added
from flankturns.singles import ends_by_turns
from flankturns.steps import rest, rest_time
from flankturns.turnsets import times


def web_rest(web):
    """The web at rest."""
    check_web(web)
    return tuple([rest(line) for line in web])


def web_time(web):
    """The number of steps that a web needs until it is at rest."""
    check_web(web)
    return max([rest_time(line) for line in web])


def web_turns(web):
    """The tuple of the numbers of ends, one turn at a time, with 0, 1, .. turns."""
    check_web(web)
    found = [1]
    for line in web:
        found = times(found, ends_by_turns(line))
    return tuple(found)


def web_ends(web):
    """The number of ends of a web, one turn at a time."""
    return sum(web_turns(web))


def web_mean(web):
    """The mean number of turns by chance, a ratio."""
    check_web(web)
    # What turns in one line does not depend on what turns in another one.
    found = (0, 1)
    for line in web:
        found = added(found, mean_turns(line))
    return found


def web_worth(web):
    """The worth of a web for two hands."""
    check_web(web)
    found = 0
    for line in web:
        found ^= worth(line)
    return found


def web_moves(web):
    """The ascending tuple of the pairs (index of a line, cell) of winning turns."""
    total = web_worth(web)
    found = []
    for index, line in enumerate(web):
        others = total ^ worth(line)
        found += [(index, cell) for cell in ready_cells(line) if worth(turned(line, cell)) == others]
    return tuple(found)
