"""All lines with a frame that have some colours at first and at rest, as hops around a circle.

Of a line that does not swing take the cells that never turn. From each of them to the next one there is a hop:
either both are neighbours, or two colours stand in turn between them, and all cells between them turn. The first
half of these comes to rest with the colour of the cell where the hop begins, the other half with that of the cell
where it ends. A row is a circle, too: its ends never turn, so that no hop leads over them.
"""

from flankturns.lines import free_marks


def runs_on(marks):
    """For each place of a circle of marks how many marks on from it are set, it itself included."""
    many = len(marks)
    found = [0] * many
    run = 0
    for place in reversed(range(2 * many)):
        run = min(run + 1, many) if marks[place % many] else 0
        found[place % many] = run
    return found


def end_of(own, beside, length):
    """The colours of the cell where a hop ends, and of the one ahead of it."""
    return (beside, own) if length % 2 else (own, beside)


class Circle:
    """The hops that there can be in a frame.

    firsts are, for each cell, the colours that it may have at first; rests the one that it shall have at rest, or
    None; no hop is longer than the longest.
    """

    def __init__(self, frame, firsts, rests, longest):
        many, held, is_ring = frame
        self.many = many
        self.free = free_marks(many, held, is_ring)
        self.firsts = firsts
        self.rests = rests
        self.longest = min(many, longest)
        self.palette = sorted(set([colour for some in firsts for colour in some]))
        # For each colour and cell how many cells may rest with the colour from it on, and back from it.
        self.ahead = {}
        self.back = {}
        for colour in self.palette:
            marks = [wished is None or wished == colour for wished in rests]
            self.ahead[colour] = runs_on(marks)
            self.back[colour] = runs_on(marks[::-1])[::-1]
        # For each cell a dict from pairs of colours, of the cell and of the one behind it, to lengths of hops.
        self.hops = [self.hops_from(cell) for cell in range(many)]
        # The cell where walks through all hops begin: one that is held, if there is any.
        self.start = 0 if self.is_loop() else self.free.index(False)

    def hops_from(self, cell):
        """A dict from pairs of colours, of a cell and of the one behind it, to the lengths of hops from the cell."""
        found = {}
        for own in self.firsts[cell]:
            if self.rests[cell] is not None and self.rests[cell] != own:
                continue
            for beside in self.firsts[(cell + 1) % self.many]:
                lengths = self.lengths_of(cell, own, beside)
                if lengths:
                    found[(own, beside)] = lengths
        return found

    def lengths_of(self, cell, own, beside):
        """The ascending list of the lengths of hops from a cell with two colours."""
        found = []
        ahead = self.ahead[own][(cell + 1) % self.many]
        for length in range(1, 1 + (1 if own == beside else self.longest)):
            last = (cell + length) % self.many
            colour = beside if length % 2 else own
            half = (length - 1) // 2
            if half > ahead or colour not in self.firsts[last]:
                break
            if self.back[colour][last] >= length - half:
                found.append(length)
            if not self.free[last]:
                break
        return found

    def is_loop(self):
        """Whether no cell is known never to turn."""
        return all(self.free)

    def cell_at(self, place):
        """The cell at a place of the walk."""
        return (self.start + place) % self.many

    def hops_at(self, place):
        """The hops from the cell at a place of the walk."""
        return self.hops[self.cell_at(place)]

    def is_barred(self, place, own, left, beside):
        """Whether the cell at a place would turn between two colours."""
        return left == beside != own and self.free[self.cell_at(place)]

    def landing(self, place, pair, length):
        """Where a hop from a place ends that leads on to the walk's first cell or over it.

        That is the place, and the colours of the cell and of the one ahead of it, which does not matter (-1) for a
        cell that is held.
        """
        last = place + length - self.many
        own, left = end_of(pair[0], pair[1], length)
        return last, own, (left if self.free[self.cell_at(last)] else -1)

    def landings(self):
        """All landings, ascending: one of them begins and ends each walk."""
        found = {}
        for place in range(self.many):
            for pair, lengths in self.hops_at(place).items():
                for length in lengths:
                    if place + length >= self.many:
                        found[self.landing(place, pair, length)] = True
        return sorted(found)
