"""The colours that can come one at a time, in order: numbered from 0 on, ascending."""

from flankturns.checks import check_cells, check_index, check_line
from flankturns.choices import count_choices
from flankturns.singles import can_come, come_count
from flankturns.wishes import both_colours


def count_least(line, cells, low, high):
    """How many colours that can come begin with some cells, and have one from low to high behind them."""
    numbers = []
    for place, colours in enumerate(both_colours(line)):
        if place < len(cells):
            numbers.append(tuple([1 if colour == cells[place] else 0 for colour in colours]))
        elif place == len(cells):
            numbers.append(tuple([1 if low <= colour <= high else 0 for colour in colours]))
        else:
            numbers.append((1, 1))
    return count_choices(line, numbers, False)


def count_below(line, cells):
    """How many colours that can come are less than some."""
    return sum([count_least(line, cells[:place], 0, colour - 1) for place, colour in enumerate(cells)])


def come_number(line, cells):
    """The number of some colours, None if they cannot come."""
    check_line(line)
    check_cells(cells, len(line[0]))
    return count_below(line, cells) if can_come(line, cells) else None


def cells_at(line, index):
    """The colours with a number."""
    cells = ()
    left = index
    for colours in both_colours(line):
        low = min(colours)
        number = count_least(line, cells, low, low)
        if left < number:
            cells = cells + (low,)
        else:
            left = left - number
            cells = cells + (max(colours),)
    return cells


def come_at(line, index):
    """The colours with a number."""
    check_line(line)
    check_index(index, come_count(line))
    return cells_at(line, index)


def first_come(line):
    """The least colours that can come."""
    check_line(line)
    return cells_at(line, 0)


def last_come(line):
    """The greatest colours that can come."""
    check_line(line)
    return cells_at(line, come_count(line) - 1)


def come_between(line, low, high):
    """How many colours that can come are from some to others."""
    check_line(line)
    check_cells(low, len(line[0]))
    check_cells(high, len(line[0]))
    up_to = count_below(line, high) + (1 if can_come(line, high) else 0)
    return max(0, up_to - count_below(line, low))
