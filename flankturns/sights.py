"""Lines of which some colours are told, at first and at rest."""

from flankturns.cheapest import least_cost
from flankturns.checks import check_colours, check_frame, check_sights
from flankturns.circles import Circle
from flankturns.frames import differences, most_time
from flankturns.hops import digits_of, place_worths
from flankturns.reach import possible
from flankturns.tallies import Tally


def check_told(frame, sights, colours):
    """The errors of all functions below."""
    check_frame(frame)
    check_sights(sights, frame[0])
    check_colours(colours)


def told_circle(frame, sights, colours):
    """The circle of all lines with a frame and some colours that are told by sights."""
    firsts = [[colour for colour in range(colours) if told in (None, colour)] for told in sights[0]]
    return Circle(frame, firsts, sights[1], frame[0])


def fit_count(frame, sights, colours):
    """The number of lines that fit."""
    check_told(frame, sights, colours)
    return Tally(frame, sights, colours, frame[0]).total()


def least_fit(frame, sights, colours):
    """The least colours of a line that fits, None without any."""
    check_told(frame, sights, colours)
    worths = place_worths(frame[0])
    costs = [{colour: colour * worth for colour in range(colours)} for worth in worths]
    found = least_cost(told_circle(frame, sights, colours), costs)
    return None if found is None else digits_of(found, frame[0])


def possible_colours(frame, sights, colours):
    """For each cell the ascending tuples of the colours of fitting lines, a pair of those at first and at rest."""
    check_told(frame, sights, colours)
    return possible(told_circle(frame, sights, colours))


def sure_colours(frame, sights, colours):
    """For each cell the colour that all fitting lines have, or None, a pair of those at first and at rest."""
    found = possible_colours(frame, sights, colours)
    if () in found[0]:
        return None
    return tuple([tuple([some[0] if len(some) == 1 else None for some in cells]) for cells in found])


def next_asked(frame, sights, colours):
    """The cell whose first colour is best asked next, None if all are told."""
    check_told(frame, sights, colours)
    untold = [cell for cell, told in enumerate(sights[0]) if told is None]
    if not untold:
        return None
    most = Tally(frame, sights, colours, frame[0]).most_alike()
    return min([(most[cell], cell) for cell in untold])[1]


def told_times(frame, sights, colours):
    """The tuple of how many fitting lines need 0, 1, .. steps."""
    check_told(frame, sights, colours)
    tallies = [Tally(frame, sights, colours, 2 * steps + 1) for steps in range(most_time(frame) + 1)]
    return differences([tally.total() for tally in tallies])
