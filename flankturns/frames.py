"""Frames: lines without their colours, and how many lines with them need which time."""

from flankturns.checks import check_colours, check_frame
from flankturns.lines import free_marks
from flankturns.ratios import lowest


def most_time(frame):
    """The most steps that a line with a frame can need until it is at rest."""
    check_frame(frame)
    many, held, is_ring = frame
    if is_ring and not held:
        # A loop that alternates all round swings, so that a cell less can take part.
        return (many - 1) // 2
    if is_ring:
        still = held + (held[0] + many,)
    else:
        still = (0,) + held + (many - 1,)
    return max([(other - one) // 2 for one, other in zip(still, still[1:])])


def resting_count(frame, colours):
    """The number of lines with a frame and with some colours that are at rest."""
    check_frame(frame)
    check_colours(colours)
    return count_within(frame, colours, 0)


def lines_by_time(frame, colours):
    """The tuple of the numbers of lines that need 0, 1, .. steps until they are at rest."""
    check_frame(frame)
    check_colours(colours)
    within = [count_within(frame, colours, steps) for steps in range(most_time(frame) + 1)]
    return differences(within)


def differences(totals):
    """By how much each of some totals is more than the one before it."""
    return tuple([one - other for one, other in zip(totals, [0] + totals)])


def can_swing(frame):
    """Whether a line with a frame can swing."""
    many, held, is_ring = frame
    return is_ring and not held and many % 2 == 0


def swinging_count(frame, colours):
    """The number of lines with a frame and with some colours that swing."""
    check_frame(frame)
    check_colours(colours)
    return colours * (colours - 1) if can_swing(frame) else 0


def mean_time(frame, colours):
    """The mean time of all lines with a frame and with some colours that come to rest, as a ratio."""
    by_time = lines_by_time(frame, colours)
    steps = sum([time * number for time, number in enumerate(by_time)])
    return lowest(steps, sum(by_time))


def count_within(frame, colours, steps):
    """The number of lines with a frame that come to rest within some steps."""
    many, held, is_ring = frame
    free = free_marks(many, held, is_ring)
    # Cells that never turn are this far from each other at most.
    longest = 2 * steps + 1
    if is_ring and not held:
        return count_loops(many, colours, longest)
    if is_ring:
        free = free[held[0]:] + free[:held[0] + 1]
    table = [{} for _ in free]
    table[0][(0, 0)] = colours
    fill_table(table, free, longest, colours)
    return sum([number for (own, _), number in table[-1].items() if own == 0 or not is_ring])


def count_loops(many, colours, longest):
    """The number of rings without a held cell that have a cell that never turns at least that often."""
    free = [True] * (many + 1)
    # Turn each ring so that the hop over its seam begins at cell 0: as many rings are one then as the hop is long.
    flat = [{} for _ in free]
    flat[1][(0, 0)] = colours
    fill_table(flat, free, longest, colours)
    other = [{} for _ in free]
    for last in range(1, min(many, longest) + 1):
        pair = (1, 0) if last % 2 else (0, 1)
        other[last][pair] = last * colours * (colours - 1)
    fill_table(other, free, longest, colours)
    closed = [number for (own, _), number in flat[many].items() if own == 0]
    closed += [number for (own, left), number in other[many].items() if own == 0 and left != 1]
    return sum(closed)


def fill_table(table, free, longest, colours):
    """Fill, cell by cell, how many colours lead to each cell that never turns.

    Each item of the table is for a cell that never turns: a dict from the pairs of its colour and the colour ahead
    of it to numbers. Colours beyond 0 and 1 are alike, and told apart in one pair only.
    """
    for first in range(len(table) - 1):
        opened = open_pairs(table[first], free[first], colours)
        for last in range(first + 1, min(first + longest, len(table) - 1) + 1):
            hop_over(opened, table[last], last - first)
            if not free[last]:
                break


def hop_over(opened, reached, length):
    """Add what hops of a length lead to."""
    for (own, beside), number in opened.items():
        if own == beside and length > 1:
            continue
        pair = named(beside, own) if length % 2 else (own, beside)
        reached[pair] = reached.get(pair, 0) + number


def open_pairs(arrived, is_free, colours):
    """From pairs of a cell's colour and the one ahead of it to those of its colour and the one behind it."""
    opened = {}
    for (own, left), number in arrived.items():
        for beside, alike in colours_behind(own, left, is_free, colours):
            pair = named(own, beside)
            opened[pair] = opened.get(pair, 0) + number * alike
    return opened


def colours_behind(own, left, is_free, colours):
    """The pairs (colour, how many are like it) of the colours behind a cell that does not turn."""
    known = sorted(set([0, 1, own, left]))
    found = [(beside, 1) for beside in known if beside < colours]
    if colours > len(known):
        found.append((4, colours - len(known)))
    return [(beside, alike) for beside, alike in found if not (is_free and left == beside != own)]


def named(own, other):
    """A pair of colours with those beyond 0 and 1 named anew, from 2 on."""
    if other < 2:
        return min(own, 2), other
    if own < 2:
        return own, 2
    return (2 if own == other else 3), 2
