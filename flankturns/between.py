"""Colours that can come one at a time, compared by the cells that have turned for them."""

from flankturns.checks import check_line
from flankturns.choices import count_choices
from flankturns.errors import BadCells
from flankturns.singles import can_come, changed_cells, colours_with


def check_both(line, one, other):
    """The errors of colours of which both must be such as can come."""
    check_line(line)
    for cells in (one, other):
        if not can_come(line, cells):
            raise BadCells("these colours cannot come")


def turns_between(line, cells):
    """The number of cells that have turned if some colours can come, None if they cannot."""
    return len(changed_cells(line, cells)) if can_come(line, cells) else None


def common_count(line, one, other):
    """The number of colours that can come from both of two colours that can come."""
    check_both(line, one, other)
    changed = changed_cells(line, one) + changed_cells(line, other)
    numbers = [(0 if cell in changed else 1, 1) for cell in range(len(one))]
    return count_choices(line, numbers, False)


def last_common(line, one, other):
    """The colours in which just the cells have turned that have in both of two colours."""
    check_both(line, one, other)
    changed = changed_cells(line, other)
    return colours_with(line, [cell for cell in changed_cells(line, one) if cell in changed])


def joined_turns(line, one, other):
    """The colours in which all cells have turned that have in one of two colours, None if these cannot come."""
    check_both(line, one, other)
    found = colours_with(line, changed_cells(line, one) + changed_cells(line, other))
    return found if can_come(line, found) else None
