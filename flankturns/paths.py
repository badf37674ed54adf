"""All colours that lead to a line that does not swing, as paths of hops from one cell that never turns to another."""

from flankturns.hops import Hop, Trail, all_hops, closing_hops


class Paths:
    """The paths of hops around a line; the classes below say what is told of them.

    A path is long if one of its hops needs as many steps as there are.
    """

    def __init__(self, line, palette, steps):
        self.trail = Trail(line)
        self.most = steps
        hops = all_hops(self.trail, steps, self.fewer_colours(palette))
        inner = [hop for hop in hops if not self.trail.is_loop or hop.last < self.trail.size]
        self.closings = closing_hops(self.trail, hops)
        self.arrivals = {}
        self.lefts = {}
        self.known_opened = {}
        self.known_arrived = {}
        for hop in inner:
            self.arrivals.setdefault((hop.last, hop.left), []).append(hop)
        for last, left in self.arrivals:
            self.lefts.setdefault(last, []).append(left)

    def fewer_colours(self, palette):
        """The colours of a palette that matter."""
        return palette

    def empty(self):
        """What is told of the path without a hop."""
        raise NotImplementedError("a class below tells it")

    def joined(self, values):
        """What is told of paths of several kinds, from what is told of each kind."""
        raise NotImplementedError("a class below tells it")

    def lengthened(self, value, hop):
        """What is told of paths with one hop more."""
        raise NotImplementedError("a class below tells it")

    def told(self, is_long):
        """What is told of all paths, or of all long ones."""
        return self.joined([self.around(hop, is_long) for hop in self.closings])

    def around(self, hop, is_long):
        """What is told of the paths from the last cell of a closing hop to its first one, and by it."""
        is_open = is_long and hop.time != self.most
        value = self.opened((hop.last, hop.left), hop.first, hop.beside, is_open)
        return self.lengthened(value, hop)

    def opened(self, source, cell, beside, is_long):
        """What is told of the paths from a source to a cell that does not turn with a colour behind it."""
        key = (source, cell, beside, is_long)
        if key not in self.known_opened:
            lefts = [source[1]] if cell == source[0] else self.lefts.get(cell, [])
            still = [left for left in lefts if not self.is_ready(cell, left, beside)]
            self.known_opened[key] = self.joined([self.arrived(source, cell, left, is_long) for left in still])
        return self.known_opened[key]

    def arrived(self, source, cell, left, is_long):
        """What is told of the paths from a source, a cell with the colour ahead of it, to another such."""
        if cell <= source[0]:
            return self.joined([self.empty()] if (cell, left) == source and not is_long else [])
        key = (source, cell, left, is_long)
        if key not in self.known_arrived:
            hops = self.arrivals[(cell, left)]
            self.known_arrived[key] = self.joined([self.behind(source, hop, is_long) for hop in hops])
        return self.known_arrived[key]

    def behind(self, source, hop, is_long):
        """What is told of the paths from a source that end with a hop."""
        is_open = is_long and hop.time != self.most
        return self.lengthened(self.opened(source, hop.first, hop.beside, is_open), hop)

    def is_ready(self, cell, left, beside):
        """Whether a cell is ready between two colours."""
        return self.trail.free[cell] and left == beside != self.trail.cells[cell]


class CountPaths(Paths):
    """Tells how many paths there are."""

    def __init__(self, line, palette, steps):
        super().__init__(line, palette, steps)
        if self.trail.is_flat_loop:
            self.closings = unlike_closings(self.trail, self.closings)

    def empty(self):
        """The number of paths without a hop."""
        return 1

    def joined(self, values):
        """The number of paths of several kinds."""
        return sum(values)

    def lengthened(self, value, hop):
        """The number of paths with one hop more."""
        return value * hop.number


def unlike_closings(trail, closings):
    """Of the closing hops of a flat loop one for all that turning it, or exchanging colours, makes of each other."""
    own = trail.cells[0]
    others = sorted(set([hop.beside for hop in closings if hop.beside != own]))
    found = []
    for hop in closings:
        if hop.last == 0 and hop.beside == own:
            found.append(hop)
        if hop.last == 0 and hop.beside in others[:1]:
            # A loop can be turned by as many cells as the hop over its seam is long.
            number = (trail.size - hop.first) * len(others)
            found.append(Hop(hop.first, 0, hop.beside, hop.left, hop.time, hop.cost, number))
    return found


class LeastPaths(Paths):
    """Tells the least worth that the colours of a path have, None without any."""

    def fewer_colours(self, palette):
        """The colours that the least path can have."""
        if not self.trail.is_flat_loop:
            return palette
        # A hop and the two beside it need three colours beyond the loop's own, and the least ones will do.
        own = self.trail.cells[0]
        return [own] + [colour for colour in palette if colour != own][:3]

    def empty(self):
        """What no colours are worth."""
        return 0

    def joined(self, values):
        """The least one of some worths."""
        return min([value for value in values if value is not None], default=None)

    def lengthened(self, value, hop):
        """What colours and those of a hop are worth."""
        return None if value is None else value + hop.cost


class ListPaths(Paths):
    """Lists what the colours of all paths are worth."""

    def empty(self):
        """What no colours are worth, listed."""
        return [0]

    def joined(self, values):
        """Some lists in one."""
        return [value for some in values for value in some]

    def lengthened(self, value, hop):
        """What colours and those of a hop are worth, listed."""
        return [worth + hop.cost for worth in value]
