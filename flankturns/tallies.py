"""How many lines are told by sights, and how many of them have which colours at first.

A run is one hop or more, one behind the other, in which two colours stand in turn. The cells between its hops would
turn; so those ways to part it in hops are counted that have an odd number of hops, and those that have an even
number are taken off: then just the lines in which no such cell turns are left, and one run may follow another one
if they have the colour of the cell between them in common, whatever other colours they have.
"""

from flankturns.circles import Circle, end_of


class Kind:
    """Some colours that are alike: the one that shows them all, and how many they are."""

    def __init__(self, shown, number):
        self.shown = shown
        self.number = number


class Tally:
    """The numbers of lines with a frame and some colours that are told by sights, with no hop beyond the longest."""

    def __init__(self, frame, sights, colours, longest):
        told = sorted(set([colour for wish in sights for colour in wish if colour is not None]))
        named = [colour for colour in told if colour < colours]
        # Colours that are not told are alike, and two of them show how any two of them go together.
        self.fresh = [colour for colour in range(colours) if colour not in told]
        self.named = [Kind(colour, 1) for colour in named]
        palette = named + self.fresh[:2]
        firsts = [palette if colour is None else [k for k in named if k == colour] for colour in sights[0]]
        self.circle = Circle(frame, firsts, sights[1], longest)
        self.many = self.circle.many
        self.runs = [self.runs_at(place) for place in range(self.many)]

    def runs_at(self, place):
        """A dict from pairs (own, beside) of two colours to the runs from a place."""
        pairs = [pair for pair in self.circle.hops_at(place) if pair[0] != pair[1]]
        return {pair: run_numbers(self.circle, place, pair) for pair in pairs}

    def kinds(self):
        """The kinds of all colours."""
        return self.named + [Kind(colour, len(self.fresh)) for colour in self.fresh[:1]]

    def beginnings(self):
        """What walks may begin with: triples (kinds, which of them, how many colours each of these stands for).

        A walk must end with the very colour with which it has begun, so that this one is a kind of its own.
        """
        found = []
        if self.named:
            found.append((self.kinds(), list(range(len(self.named))), 1))
        if self.fresh:
            parts = [Kind(self.fresh[0], number) for number in (1, len(self.fresh) - 1) if number]
            found.append((self.named + parts, [len(self.named)], len(self.fresh)))
        return found

    def first_places(self):
        """The places where walks may begin."""
        return list(range(self.many if self.circle.is_loop() else 1))

    def pair_of(self, own, kind):
        """Two unlike colours of two kinds."""
        return own.shown, (self.fresh[1] if own.shown == kind.shown else kind.shown)

    def legs_of(self, kinds):
        """For each place and kind the runs on: tuples (length, kind behind it, number, pair)."""
        return [[self.legs_at(place, kinds, at) for at in range(len(kinds))] for place in range(self.many)]

    def legs_at(self, place, kinds, at):
        """The runs on from a place with a colour of a kind; their pairs show its kind and that of the other colour."""
        own = kinds[at]
        found = []
        if (own.shown, own.shown) in self.circle.hops_at(place):
            found.append((1, at, 1, (own.shown, own.shown)))
        for other, kind in enumerate(kinds):
            number = kind.number - (1 if other == at else 0)
            if number > 0:
                for length, more in self.runs[place].get(self.pair_of(own, kind), []):
                    behind = other if length % 2 else at
                    found.append((length, behind, number * more, (own.shown, kind.shown)))
        return found

    def swinging(self):
        """The triples (even, odd, number) of the colours in turn of lines that swing, and of what to add for these.

        That is what parting them all round would count, so that with it they do not count at all.
        """
        if not self.circle.is_loop() or self.many % 2:
            return []
        found = []
        for even in self.kinds():
            for odd in self.kinds():
                number = even.number * (odd.number - (1 if odd.shown == even.shown else 0))
                if number:
                    found.append((even.shown, odd.shown, number * self.ways_round(self.pair_of(even, odd))))
        return found

    def ways_round(self, pair):
        """The number of ways to part two colours in turn all round in hops, odd numbers of hops being taken off."""
        found = 0
        for first in range(self.many):
            begun = (pair[1], pair[0]) if first % 2 else pair
            for length, number in [(0, -1)] + self.runs[first].get(begun, []):
                if first + length < self.many:
                    hops = self.circle.hops_at(first + length).get(end_of(begun[0], begun[1], length), [])
                    found += number if self.many - length in hops else 0
        return found

    def total(self):
        """The number of all lines."""
        found = sum([added[2] for added in self.swinging()])
        for kinds, some, number in self.beginnings():
            legs = self.legs_of(kinds)
            for first in self.first_places():
                found += number * sum([ways_back(legs, first, begun)[first][begun] for begun in some])
        return found

    def run_totals(self):
        """A dict from runs, told as (place, length, pair of colours), to how often lines have them."""
        found = {}
        for kinds, some, number in self.beginnings():
            legs = self.legs_of(kinds)
            for first in self.first_places():
                for begun in some:
                    for run, ways in run_ways(legs, first, begun):
                        add_ways(found, run, number * ways)
        return found

    def by_firsts(self):
        """For each cell a dict from colours that show kinds to how many lines have such a colour there at first."""
        found = [{} for _ in range(self.many)]
        for (place, length, (own, other)), ways in self.run_totals().items():
            for by in range(1, length + 1):
                add_ways(found[self.circle.cell_at(place + by)], other if by % 2 else own, ways)
        for even, odd, ways in self.swinging():
            for place in range(self.many):
                add_ways(found[self.circle.cell_at(place)], odd if place % 2 else even, ways)
        return found

    def most_alike(self):
        """For each cell the greatest number of lines that have one colour there at first."""
        numbers = {kind.shown: kind.number for kind in self.kinds()}
        return [max([ways // numbers[shown] for shown, ways in some.items()], default=0) for some in self.by_firsts()]


def run_numbers(circle, place, pair):
    """The pairs (length, number) of the lengths of runs from a place with a pair (own, beside), and of their ways."""
    numbers = [0] * (circle.many + 1)
    for length in circle.hops_at(place)[pair]:
        numbers[length] = 1
    for length in range(1, circle.many):
        cell = circle.cell_at(place + length)
        if numbers[length] and circle.free[cell]:
            for more in circle.hops[cell].get(end_of(pair[0], pair[1], length), []):
                if length + more <= circle.many:
                    numbers[length + more] -= numbers[length]
    return [(length, number) for length, number in enumerate(numbers) if number]


def add_ways(table, key, ways):
    """Add a number of ways to what a dict has for a key."""
    table[key] = table.get(key, 0) + ways


def ways_back(legs, first, begun):
    """For each place and kind the number of ways on to the end of walks that have begun at a place with a kind."""
    many = len(legs)
    found = [[0] * len(some) for some in legs]
    for place in reversed(range(first, many)):
        for at, some in enumerate(legs[place]):
            ways = 0
            for length, behind, number, _ in some:
                end = place + length
                if end < many:
                    ways += number * found[end][behind]
                elif end == many + first and behind == begun:
                    ways += number
            found[place][at] = ways
    return found


def ways_on(legs, first, begun):
    """For each place and kind the number of ways to it for walks that begin at a place with a kind."""
    many = len(legs)
    found = [[0] * len(some) for some in legs]
    found[first][begun] = 1
    for place in range(first, many):
        for at, some in enumerate(legs[place]):
            ways = found[place][at]
            for length, behind, number, _ in some if ways else []:
                if place + length < many:
                    found[place + length][behind] += number * ways
    return found


def run_ways(legs, first, begun):
    """For walks that begin at a place with a kind, pairs of a run, told as in run_totals, and how many have it."""
    many = len(legs)
    back = ways_back(legs, first, begun)
    found = []
    for place, kinds in enumerate(ways_on(legs, first, begun)):
        for at, ways in enumerate(kinds):
            for length, behind, number, pair in legs[place][at] if ways else []:
                end = place + length
                if end < many:
                    more = back[end][behind]
                else:
                    more = 1 if end == many + first and behind == begun else 0
                if more:
                    found.append(((place, length, pair), ways * number * more))
    return found
