"""What lines weigh: the product of the odds of their cells' colours.

Of the cells that never turn, each one and the next are neighbours, or two colours stand in turn between them: that
is a hop. A run is one hop or more, one behind the other, in which two colours stand in turn; as in tallies, ways to
part it in an even number of hops are taken off, so that a run may follow any other one that ends with the colour
with which it begins.
"""


def powers(odds, most):
    """For each exponent up to the most the powers of all odds."""
    found = [[1] * len(odds)]
    for _ in range(most):
        found.append([odd * power for odd, power in zip(odds, found[-1])])
    return found


def part_numbers(most, longest):
    """For each length up to the most the number of ways to part a run in hops that are not beyond the longest."""
    found = [0]
    for length in range(1, most + 1):
        ways = 1 if length <= longest else 0
        found.append(ways - sum(found[max(length - longest, 0):]))
    return found


class Draw:
    """The odds of colours, none of them 0, and the numbers of ways to part runs of all lengths."""

    def __init__(self, odds, many, longest):
        self.many = many
        self.longest = longest
        self.odds = [odd for odd in odds if odd]
        self.powers = powers(self.odds, many)
        self.numbers = part_numbers(many, longest)

    def swinging(self):
        """What two colours in turn all round weigh, for all pairs of colours."""
        one = sum(self.powers[self.many // 2])
        return one * one - sum(self.powers[self.many])

    def behind(self, table, numbers):
        """For each colour the weight behind those of a table, by the place of a cell that never turns, ends of runs.

        The table has, for each place from a cell on that never turns, what it weighs with each colour there.
        """
        found = [0] * len(self.odds)
        for length in range(1, len(table) + 1):
            weights = table[-length]
            half = self.powers[length // 2]
            more = self.powers[(length + 1) // 2]
            if length % 2:
                # The run ends with its other colour, or is but a step to a neighbour of the same colour.
                total = sum([weight * power for weight, power in zip(weights, half)])
                ends = [total - (weight * power if length > 1 else 0) for weight, power in zip(weights, half)]
            else:
                total = sum(half)
                ends = [weight * (total - power) for weight, power in zip(weights, half)]
            for colour, weight in enumerate(ends):
                found[colour] += numbers[length] * weight * more[colour]
        return found

    def along(self, weights, lengths):
        """What the colours of a cell that is held weigh, carried on over some lengths to other such cells."""
        for length in lengths:
            table = [weights]
            for _ in range(length):
                table.append(self.behind(table, self.numbers))
            weights = table[-1]
        return weights

    def around(self, colour, lengths):
        """What lines weigh in which a cell that is held has a colour, by the lengths between all such cells."""
        weights = [1 if other == colour else 0 for other in range(len(self.odds))]
        return self.along(weights, lengths)[colour]

    def loop_around(self, colour):
        """What lines weigh without a cell that is held, by runs the first of which begins with a colour.

        Each line is told as often as the run over its seam is long, as the line can be turned by so many cells.
        """
        table = [[1 if other == colour else 0 for other in range(len(self.odds))]]
        for _ in range(self.many - 1):
            table.append(self.behind(table, self.numbers))
        return self.behind(table, [length * number for length, number in enumerate(self.numbers)])[colour]

    def loops(self):
        """What all lines weigh that come to rest without a cell that is held."""
        found = sum([self.loop_around(colour) for colour in range(len(self.odds))])
        if self.many % 2:
            return found
        # Lines that swing have been told by runs that do not go on all round; with these they weigh nothing.
        ways = 0
        for length in range(1, min(self.longest, self.many) + 1):
            ways += length * (self.numbers[self.many - length] if length < self.many else -1)
        return found + ways * self.swinging()


def weight_within(frame, odds, steps):
    """What all lines with a frame weigh that are at rest behind some steps."""
    many, held, is_ring = frame
    draw = Draw(odds, many, 2 * steps + 1)
    if is_ring and not held:
        return draw.loops()
    still = held + (held[0] + many,) if is_ring else tuple(sorted(set((0,) + held + (many - 1,))))
    lengths = [other - one for one, other in zip(still, still[1:])]
    if is_ring:
        return sum([draw.around(colour, lengths) for colour in range(len(draw.odds))])
    return sum(draw.along(draw.odds, lengths))
