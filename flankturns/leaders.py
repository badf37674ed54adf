"""Colours that come to rest as a line."""

from flankturns.checks import check_colours, check_line
from flankturns.frames import differences, most_time
from flankturns.hops import digits_of
from flankturns.lines import frame_of, ready_cells
from flankturns.paths import CountPaths, LeastPaths


def is_resting(line, colours):
    """Whether a line is at rest and has no other colours than those that are meant."""
    return not ready_cells(line) and max(line[0]) < colours


def slowest_possible(line):
    """The most steps that a line with the frame of a line can need."""
    return most_time(frame_of(line))


def leaders_within(line, colours, steps):
    """The number of leaders that need some steps at most."""
    if not is_resting(line, colours):
        return 0
    return CountPaths(line, list(range(colours)), steps).told(False)


def least_of(line, colours, steps, is_long):
    """The least leader that needs some steps at most, or just as many if is_long is True."""
    if not is_resting(line, colours):
        return None
    worth = LeastPaths(line, list(range(colours)), steps).told(is_long)
    return digits_of(worth, len(line[0]))


def leader_count(line, colours):
    """The number of leaders of a line."""
    check_line(line)
    check_colours(colours)
    return leaders_within(line, colours, slowest_possible(line))


def leaders_by_time(line, colours):
    """The tuple of how many leaders of a line need 0, 1, .. steps."""
    check_line(line)
    check_colours(colours)
    within = [leaders_within(line, colours, steps) for steps in range(slowest_possible(line) + 1)]
    return differences(within)


def least_leader(line, colours):
    """The least leader of a line, None without any."""
    check_line(line)
    check_colours(colours)
    return least_of(line, colours, slowest_possible(line), False)


def slowest_leader(line, colours):
    """The least one of the leaders that need the most steps, None without any."""
    by_time = leaders_by_time(line, colours)
    times = [time for time, number in enumerate(by_time) if number]
    if not times:
        return None
    return least_of(line, colours, times[-1], True)
