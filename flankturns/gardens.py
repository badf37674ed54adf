"""Gardens, lines without a before, and how old lines can be."""

from flankturns.checks import check_colours, check_frame
from flankturns.every import all_cells, check_few_lines
from flankturns.lines import free_marks, swings


def stepped(cells, free):
    """The colours of cells behind a step, by which of them are free."""
    many = len(cells)
    sides = [(cells[k - 1], cells[(k + 1) % many]) for k in range(many)]
    return tuple([left if free[k] and left == right else cells[k] for k, (left, right) in enumerate(sides)])


def check_told_lines(frame, colours):
    """The errors of all functions below."""
    check_frame(frame)
    check_colours(colours)
    check_few_lines(frame, colours)


def gardens(frame, colours):
    """The ascending list of the colours of all gardens."""
    free = free_marks(frame[0], frame[1], frame[2])
    every = all_cells(frame[0], colours)
    reached = {stepped(cells, free): True for cells in every}
    return [cells for cells in every if cells not in reached]


def garden_count(frame, colours):
    """The number of lines with a frame that are gardens."""
    check_told_lines(frame, colours)
    return len(gardens(frame, colours))


def least_garden(frame, colours):
    """The least colours of a garden, None without any."""
    check_told_lines(frame, colours)
    found = gardens(frame, colours)
    return found[0] if found else None


def older(level, free):
    """The colours to which some others come in one step, if these are not at rest."""
    found = {}
    for cells in level:
        behind = stepped(cells, free)
        if behind != cells:
            found[behind] = True
    return list(found)


def age_counts(frame, colours):
    """The tuple of the numbers of lines of age 0, 1, .."""
    check_told_lines(frame, colours)
    many, held, is_ring = frame
    free = free_marks(many, held, is_ring)
    every = all_cells(many, colours)
    # Lines of such an age at least: all, then those to which others come in 1, 2, .. steps.
    numbers = [len(every)]
    level = older([cells for cells in every if not swings((cells, held, is_ring))], free)
    while level:
        numbers.append(len(level))
        level = older(level, free)
    return tuple([number - more for number, more in zip(numbers, numbers[1:] + [0])])
