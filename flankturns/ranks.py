"""Lines at rest in order: numbered from 0 on, by ascending cells."""

from flankturns.checks import check_colours, check_frame, check_index, check_line
from flankturns.frames import resting_count
from flankturns.leaders import is_resting
from flankturns.lines import frame_of, free_marks


class Order:
    """The lines at rest with a frame and some colours, by how they begin."""

    def __init__(self, frame, colours):
        many, held, is_ring = frame
        self.many = many
        self.is_ring = is_ring
        self.free = free_marks(many, held, is_ring)
        self.colours = colours
        self.number = resting_count(frame, colours)
        # For pairs of the first two colours tables, worked out when they are asked for.
        self.tables = {}

    def is_ready(self, cell, left, own, right):
        """Whether a cell with a colour of its own is ready between two others."""
        return self.free[cell] and left == right != own

    def closes(self, firsts, lasts):
        """Whether the last two colours of a line at rest can go with its first two."""
        if not self.is_ring:
            return True
        is_last_ready = self.is_ready(self.many - 1, lasts[0], lasts[1], firsts[0])
        return not is_last_ready and not self.is_ready(0, lasts[1], firsts[0], firsts[1])

    def new_table(self, firsts):
        """For each number of cells a dict from the last two colours of these to how many lines go on so."""
        every = list(range(self.colours))
        pairs = [(one, other) for one in every for other in every]
        table = [{} for _ in range(self.many + 1)]
        table[self.many] = {pair: 1 if self.closes(firsts, pair) else 0 for pair in pairs}
        for place in reversed(range(2, self.many)):
            behind = table[place + 1]
            sums = [sum([behind[(colour, right)] for right in every]) for colour in every]
            for left, own in pairs:
                is_barred = self.is_ready(place - 1, left, own, left)
                table[place][(left, own)] = sums[own] - (behind[(own, left)] if is_barred else 0)
        return table

    def table_for(self, firsts):
        """The table for the first two colours of lines."""
        if firsts not in self.tables:
            self.tables[firsts] = self.new_table(firsts)
        return self.tables[firsts]

    def begun(self, cells, colour):
        """How many lines begin with some colours, as lines at rest can, and with one more behind them."""
        place = len(cells)
        if colour >= self.colours:
            return 0
        if place == 0:
            # All colours are alike.
            return self.number // self.colours
        if place > 1 and self.is_ready(place - 1, cells[-2], cells[-1], colour):
            return 0
        firsts = (cells + (colour,))[:2]
        return self.table_for(firsts)[place + 1][(cells[-1], colour)]

    def below(self, cells):
        """How many lines have lesser colours than some."""
        number = 0
        for place, colour in enumerate(cells):
            number += sum([self.begun(cells[:place], less) for less in range(colour)])
            if self.begun(cells[:place], colour) == 0:
                break
        return number

    def cells_at(self, index):
        """The colours of the line with a number."""
        cells = ()
        left = index
        while len(cells) < self.many:
            colour = 0
            while left >= self.begun(cells, colour):
                left -= self.begun(cells, colour)
                colour += 1
            cells = cells + (colour,)
        return cells


def rest_number(line, colours):
    """The number of a line among the lines at rest of its frame, None for one that is none of them."""
    check_line(line)
    check_colours(colours)
    if not is_resting(line, colours):
        return None
    return Order(frame_of(line), colours).below(line[0])


def line_at(frame, order, index):
    """The line with a number, of a frame and its order."""
    return order.cells_at(index), frame[1], frame[2]


def rest_at(frame, colours, index):
    """The line at rest with a number."""
    check_frame(frame)
    check_colours(colours)
    order = Order(frame, colours)
    check_index(index, order.number)
    return line_at(frame, order, index)


def next_rest(line, colours):
    """The first line at rest of the same frame whose cells are greater than those of a line, None without any."""
    check_line(line)
    check_colours(colours)
    frame = frame_of(line)
    order = Order(frame, colours)
    index = order.below(line[0]) + (1 if is_resting(line, colours) else 0)
    return line_at(frame, order, index) if index < order.number else None
