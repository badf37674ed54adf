"""What lies between two cells that never turn, where colours lead to a line in some steps.

Of the colours ahead of the steps take the cells that never turn. From each of them to the next one there is a
hop: either both are neighbours, or two colours stand in turn between them, and all cells between them turn.
"""

from flankturns.lines import free_marks


class Hop:
    """A hop from its first to its last cell, both told by their places in a trail."""

    def __init__(self, first, last, beside, left, time, cost, number=1):
        self.first = first
        self.last = last
        # The colours, ahead of the steps, behind the first cell and ahead of the last one.
        self.beside = beside
        self.left = left
        # The steps that the cells between them need.
        self.time = time
        # What the colours, ahead of the steps, from the first cell to the one ahead of the last one are worth.
        self.cost = cost
        # How many hops it stands for.
        self.number = number


class Trail:
    """The cells of a line in the order in which hops lead through them; those of a ring come again."""

    def __init__(self, line):
        cells, held, is_ring = line
        self.size = len(cells)
        # A loop has no cell that is known never to turn.
        self.is_loop = is_ring and not held
        self.is_flat_loop = self.is_loop and cells.count(cells[0]) == self.size
        order = walking_order(line)
        free = free_marks(self.size, held, is_ring)
        worths = place_worths(self.size)
        self.cells = [cells[cell] for cell in order]
        self.free = [free[cell] for cell in order]
        self.worths = [worths[cell] for cell in order]


def walking_order(line):
    """The cells of a line from where it is best cut; in a loop that is a border, if it has one."""
    cells, held, is_ring = line
    many = len(cells)
    if not is_ring:
        return list(range(many))
    if held:
        return [(held[0] + k) % many for k in range(many + 1)]
    cuts = [cell for cell in range(many) if cells[cell - 1] != cells[cell]]
    cut = cuts[0] if cuts else 0
    return [(cut + k) % many for k in range(2 * many)]


def place_worths(many):
    """What 1 is worth at each place of a number with so many digits; a lesser number has lesser colours."""
    worths = [1] * many
    for place in range(many - 1, 0, -1):
        worths[place - 1] = 10 * worths[place]
    return worths


def digits_of(number, many):
    """The colours that are the digits of a number."""
    return tuple([int(digit) for digit in str(number).zfill(many)])


def shows(cells, first, last, beside, steps):
    """Whether two colours in turn from the first to the last cell become those of the cells in some steps."""
    own = cells[first]
    for cell in range(first + 1, last + 1):
        turns = min(cell - first, last - cell, steps)
        if cells[cell] != (beside if (cell - first + turns) % 2 else own):
            return False
    return True


def colours_beside(cells, first, last, steps, palette):
    """The colours that may stand behind the first cell of a hop to the last one."""
    own = cells[first]
    length = last - first
    if length == 1:
        return [cells[last]]
    if length // 2 > steps:
        some = [cells[first + steps + 1]]
    elif length % 2:
        some = [cells[last]]
    else:
        some = palette
    some = [colour for colour in some if colour != own]
    # Where there is a choice, the other colour is gone behind the steps: one answer holds for all.
    return some if some and shows(cells, first, last, some[0], steps) else []


def hops_from(trail, first, steps, palette):
    """All hops from a cell that are over in some steps or show the trail's colours behind them."""
    found = []
    worth = [0, 0]
    for last in range(first + 1, min(first + trail.size, len(trail.cells) - 1) + 1):
        length = last - first
        worth[(length - 1) % 2] += trail.worths[last - 1]
        own = trail.cells[first]
        for beside in colours_beside(trail.cells, first, last, steps, palette):
            left = own if length % 2 else beside
            cost = own * worth[0] + beside * worth[1]
            found.append(Hop(first, last, beside, left, length // 2, cost))
        if not trail.free[last]:
            break
    return found


def all_hops(trail, steps, palette):
    """All hops in a trail, for colours of a palette, by ascending first cells."""
    found = []
    for first in range(trail.size):
        found.extend(hops_from(trail, first, steps, palette))
    return found


def closing_hops(trail, hops):
    """The hops from the end of a walk back to its start, which is their last cell."""
    if trail.is_loop:
        return [over_seam(hop, trail.size) for hop in hops if hop.last >= trail.size]
    end = len(trail.cells) - 1
    own = trail.cells[end]
    # The last cell of a row is in no hop of it; that of a ring is its first one once more.
    cost = own * trail.worths[end] if end < trail.size else 0
    return [Hop(end, 0, own, own, 0, cost)]


def over_seam(hop, size):
    """A hop of a loop to a cell that comes again, to that cell where it comes first."""
    return Hop(hop.first, hop.last - size, hop.beside, hop.left, hop.time, hop.cost)
