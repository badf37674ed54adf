"""Lines that are drawn: each cell has a colour by itself, with the same odds."""

from flankturns.checks import check_cell, check_count, check_frame, check_odds
from flankturns.drawn import Draw, powers, weight_within
from flankturns.frames import can_swing, differences, most_time
from flankturns.lines import free_marks
from flankturns.ratios import lowest


def all_weight(odds, many):
    """What all lines with so many cells weigh."""
    return powers([sum(odds)], many)[many][0]


def swinging_weight(frame, odds):
    """What all lines with a frame weigh that swing."""
    return Draw(odds, frame[0], 1).swinging() if can_swing(frame) else 0


def swing_chance(frame, odds):
    """The chance that a line swings."""
    check_frame(frame)
    check_odds(odds)
    return lowest(swinging_weight(frame, odds), all_weight(odds, frame[0]))


def time_chances(frame, odds):
    """The tuple of the chances that a line needs 0, 1, .. steps until it is at rest."""
    check_frame(frame)
    check_odds(odds)
    within = [weight_within(frame, odds, steps) for steps in range(most_time(frame) + 1)]
    return tuple([lowest(weight, all_weight(odds, frame[0])) for weight in differences(within)])


def most_depth(frame, cell):
    """How often a cell of a line with a frame can turn until the line is at rest, at most."""
    many, held, is_ring = frame
    free = free_marks(many, held, is_ring)
    depth = 0
    while 2 * depth + 1 <= many and free[(cell - depth) % many] and free[(cell + depth) % many]:
        depth += 1
    return depth if 2 * depth + 1 <= many else depth - 1


def rest_weight(frame, odds, depth, colour):
    """What all lines with a frame weigh in which a cell that turns so often at most rests with a colour."""
    many = frame[0]
    own = odds[colour]
    others = odds[:colour] + odds[colour + 1:]
    every = powers([sum(odds)], many)
    found = own * every[many - 1][0]
    pairs = powers([own * other for other in others], many)
    for turns in range(1, depth + 1):
        # The colours in turn around the cell that make it turn once more exchange what it had rested with.
        gained = sum([pair * (own - other) for pair, other in zip(pairs[turns], others)])
        found += gained * every[many - 2 * turns - 1][0]
    if can_swing(frame):
        found -= sum(pairs[many // 2])
    return found


def rest_chances(frame, odds, cell):
    """For each colour the chance that a line comes to rest with this colour of a cell."""
    check_frame(frame)
    check_odds(odds)
    check_cell(cell, frame[0])
    depth = most_depth(frame, cell)
    total = all_weight(odds, frame[0])
    return tuple([lowest(rest_weight(frame, odds, depth, colour), total) for colour in range(len(odds))])


def row_weights(free, weights, own, other):
    """What rows weigh in which no two neighbours, and only cells that are free, have another colour than one.

    The weights are those with the cell ahead of the row having the colour, and not having it; what is returned are
    those of the last cell.
    """
    mine, others = weights
    for is_free in free:
        mine, others = (mine + others) * own, mine * other if is_free else 0
    return mine, others


def flat_weight(frame, odds, colour):
    """What all lines with a frame weigh that come to rest with a colour alone."""
    many, held, is_ring = frame
    own = odds[colour]
    other = sum(odds) - own
    free = free_marks(many, held, is_ring)
    if not all(free):
        # Behind a cell that is held, and so has the colour, the others follow round to it again.
        start = free.index(False)
        return sum(row_weights(free[start + 1:] + free[:start], (own, 0), own, other))
    found = sum(row_weights(free[1:], (own, 0), own, other)) + row_weights(free[1:], (0, other), own, other)[0]
    if can_swing(frame):
        found -= 2 * sum(powers([own * odd for odd in odds[:colour] + odds[colour + 1:]], many)[many // 2])
    return found


def all_chance(frame, odds, colour):
    """The chance that a line comes to rest with a colour alone."""
    check_frame(frame)
    check_odds(odds)
    check_count(colour, 0, 9)
    if colour >= len(odds):
        return 0, 1
    return lowest(flat_weight(frame, odds, colour), all_weight(odds, frame[0]))
