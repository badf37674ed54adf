"""Which colours cells can have, at first and at rest, in lines that are told by hops around a circle.

Sets of landings are integers: each landing, where a walk begins and ends, has a bit of its own.
"""

from flankturns.circles import end_of


class Reach:
    """What the hops of all walks around a circle have to do with."""

    def __init__(self, circle):
        self.circle = circle
        self.bits = {landing: 1 << number for number, landing in enumerate(circle.landings())}
        # For each place dicts from pairs (own, left) to the landings from which, and back to which, a walk leads.
        self.entries = [{} for _ in range(circle.many)]
        self.returns = [{} for _ in range(circle.many)]
        # For each place dicts from pairs (own, beside) to the landings from which a walk leads on with them.
        self.exits = [{} for _ in range(circle.many)]
        self.firsts = [{} for _ in range(circle.many)]
        self.rests = [{} for _ in range(circle.many)]
        self.tails = {}
        self.walk_on()
        self.walk_back()
        for (place, colour), many in self.tails.items():
            self.mark(self.rests, colour, [place - by for by in range(many)])

    def walk_on(self):
        """Find from which landings there is a walk to each place."""
        for (place, own, left), bit in self.bits.items():
            self.entries[place][(own, left)] = bit
        for place in range(self.circle.many):
            for pair in self.circle.hops_at(place):
                bits = self.leading(place, pair)
                if bits:
                    self.exits[place][pair] = bits
                    self.hop_on(place, pair, bits)

    def leading(self, place, pair):
        """The landings from which a walk leads to a place and on with a pair (own, beside)."""
        bits = 0
        for (own, left), some in self.entries[place].items():
            if own == pair[0] and not self.circle.is_barred(place, own, left, pair[1]):
                bits |= some
        return bits

    def hop_on(self, place, pair, bits):
        """Tell all places where hops of a pair end from which landings there is a walk to them."""
        for length in self.circle.hops_at(place)[pair]:
            if place + length < self.circle.many:
                arrived = self.entries[place + length]
                ended = end_of(pair[0], pair[1], length)
                arrived[ended] = arrived.get(ended, 0) | bits

    def walk_back(self):
        """Find back to which landings there is a walk from each place, and mark what hops of such walks have."""
        for place in reversed(range(self.circle.many)):
            closed = {pair: self.closing(place, pair) for pair in self.exits[place]}
            for own, left in self.entries[place]:
                bits = 0
                for (first, beside), some in closed.items():
                    if first == own and not self.circle.is_barred(place, own, left, beside):
                        bits |= some
                self.returns[place][(own, left)] = bits

    def closing(self, place, pair):
        """The landings back to which a walk leads with a pair (own, beside) from a place."""
        bits = 0
        furthest = 0
        for length in self.circle.hops_at(place)[pair]:
            end = place + length
            if end < self.circle.many:
                more = self.returns[end].get(end_of(pair[0], pair[1], length), 0)
            else:
                more = self.bits[self.circle.landing(place, pair, length)]
            if more & self.exits[place][pair]:
                furthest = length
                self.keep_tail(end, end_of(pair[0], pair[1], length)[0], length - (length - 1) // 2)
            bits |= more
        self.mark(self.firsts, pair[0], [place + by for by in range(2, furthest + 1, 2)])
        self.mark(self.firsts, pair[1], [place + by for by in range(1, furthest + 1, 2)])
        self.mark(self.rests, pair[0], [place + by for by in range(1, 1 + (furthest - 1) // 2)])
        return bits

    def keep_tail(self, end, colour, many):
        """Keep how many cells up to one where hops end come to rest with its colour, at most."""
        self.tails[(end, colour)] = max(many, self.tails.get((end, colour), 0))

    def mark(self, marks, colour, places):
        """Mark that the cells at some places can have a colour."""
        for place in places:
            marks[self.circle.cell_at(place)][colour] = True


def possible(circle):
    """For each cell the ascending tuples of its colours at first, and of those at rest."""
    reach = Reach(circle)
    return tuple([tuple([tuple(sorted(one)) for one in marks]) for marks in (reach.firsts, reach.rests)])
