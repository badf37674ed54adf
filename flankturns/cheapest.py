"""The colours of the least cost at first, of lines that are told by hops around a circle."""

from heapq import heappop, heappush

from flankturns.circles import end_of


class Walks:
    """The walks by hops around a circle, each of which begins at a landing and ends at the same one.

    costs are, for each cell, a dict from its colours.
    """

    def __init__(self, circle, costs):
        self.circle = circle
        self.sums = {colour: summed(circle, costs, colour) for colour in circle.palette}
        # For each place a dict from pairs (own, beside) to hops, told as (place where it ends, how, cost).
        self.legs = [self.legs_at(place) for place in range(circle.many)]

    def legs_at(self, place):
        """A dict from pairs (own, beside) to the hops from a place.

        How a hop ends is told by a pair (own, left), or the landing; the cells from the first one on that it leads
        over cost nothing, as the walk begins with them.
        """
        many = self.circle.many
        found = {}
        for pair, lengths in self.circle.hops_at(place).items():
            found[pair] = []
            for length in lengths:
                end = place + length
                if end < many:
                    told = end_of(pair[0], pair[1], length)
                else:
                    told = self.circle.landing(place, pair, length)
                found[pair].append((end, told, self.cost_between(place, min(end, many - 1), pair)))
        return found

    def cost_between(self, place, end, pair):
        """What the cells behind a place up to another one cost with a pair (own, beside) of colours in turn."""
        own, beside = self.sums[pair[0]], self.sums[pair[1]]
        odd = (end - place) % 2
        return own[end - odd + 2] - own[place + 2] + beside[end + odd + 1] - beside[place + 1]

    def cost_ahead(self, landing):
        """What the first cells up to a landing cost."""
        place, own, left = landing
        return self.sums[own][place + 2] + (self.sums[left][place + 1] if place else 0)


def summed(circle, costs, colour):
    """For each place, two further on, what a colour costs there and at every other place ahead of it."""
    sums = [0, 0]
    for place in range(circle.many):
        sums.append(sums[place] + costs[circle.cell_at(place)].get(colour, 0))
    return sums


class WaysBack:
    """The cheapest ways on from each place to the end of a walk at one of some landings."""

    def __init__(self, walks, landings):
        self.walks = walks
        self.allowed = {landing: True for landing in landings}
        # For each place dicts from pairs (own, beside), and (own, left), to the least cost from there on.
        self.exits = [{} for _ in walks.legs]
        self.entries = [{} for _ in walks.legs]
        for place in reversed(range(len(walks.legs))):
            for pair, legs in walks.legs[place].items():
                self.find_cost(place, pair, legs)

    def find_cost(self, place, pair, legs):
        """Find the least cost from a place on with a pair (own, beside)."""
        many = len(self.exits)
        found = []
        for end, told, cost in legs:
            if end < many:
                more = self.cost_from(end, told)
                if more is not None:
                    found.append(cost + more)
            elif told in self.allowed:
                found.append(cost)
        if found:
            self.exits[place][pair] = min(found)

    def cost_from(self, place, pair):
        """The least cost from a place on where a walk has arrived with a pair (own, left), None if there is no way."""
        known = self.entries[place]
        if pair not in known:
            own, left = pair
            circle = self.walks.circle
            costs = [self.exits[place].get((own, beside)) for beside in circle.palette
                     if not circle.is_barred(place, own, left, beside)]
            known[pair] = min([cost for cost in costs if cost is not None], default=None)
        return known[pair]

    def cost_of(self, landing):
        """The least cost of a walk that begins at a landing and may end at any other one, None without any."""
        place, own, left = landing
        more = self.cost_from(place, (own, left))
        return None if more is None else self.walks.cost_ahead(landing) + more


def parted(landings):
    """Some landings in parts that have more in common: the colour of the first cell, then that of the last one."""
    for depth in (1, 2):
        parts = {}
        for landing in landings:
            place, own, left = landing
            pair = (left, own) if place % 2 else (own, left)
            parts.setdefault(pair[:depth], []).append(landing)
        if len(parts) > 1:
            return list(parts.values())
    return [[landing] for landing in landings]


def least_cost(circle, costs):
    """The least cost of the colours at first, None if no line is told by the circle.

    How little walks from many landings can cost at least is told as if they might end at any of these; the landings
    are parted where that is the least, until there is but one.
    """
    walks = Walks(circle, costs)
    queue = []
    some = circle.landings()
    while True:
        ways = WaysBack(walks, some)
        found = {}
        for landing in some:
            cost = ways.cost_of(landing)
            if cost is not None:
                found[landing] = cost
        for part in parted(list(found)):
            heappush(queue, (min([found[landing] for landing in part]), len(some) == 1, part))
        if not queue:
            return None
        cost, is_told, some = heappop(queue)
        if is_told:
            return cost
