"""Any set of ready cells turning at once, again and again."""

from flankturns.checks import check_cells, check_line
from flankturns.errors import TooMany
from flankturns.lines import ready_cells

MOST_CELLS = 10


def check_short(line):
    """TooMany for a line with too many cells for all of its colours to be told."""
    if len(line[0]) > MOST_CELLS:
        raise TooMany(MOST_CELLS)


def turned_sets(cells, ready):
    """All colours that some colours become if any of the ready cells turn, none of them included."""
    found = [cells]
    for cell in ready:
        # What a cell takes is a colour ahead of all turns, of cells that may have turned as well.
        colour = (cells[cell - 1],)
        found = found + [some[:cell] + colour + some[cell + 1:] for some in found]
    return found


def free_times(line):
    """A dict from all colours that can come to the least number of times behind which they can."""
    times = {line[0]: 0}
    level = [line[0]]
    many = 0
    while level:
        many += 1
        reached = []
        for cells in level:
            ready = ready_cells((cells, line[1], line[2]))
            for behind in turned_sets(cells, ready):
                if behind not in times:
                    times[behind] = many
                    reached.append(behind)
        level = reached
    return times


def free_count(line):
    """The number of colours that can come."""
    check_line(line)
    check_short(line)
    return len(free_times(line))


def free_ends(line):
    """The ascending list of the colours that can come in which no cell is ready."""
    check_line(line)
    check_short(line)
    return [cells for cells in sorted(free_times(line)) if not ready_cells((cells, line[1], line[2]))]


def free_time(line, cells):
    """The least number of times behind which some colours can come, None if they cannot."""
    check_line(line)
    check_cells(cells, len(line[0]))
    check_short(line)
    return free_times(line).get(cells)


def is_free(line, cells):
    """Whether some colours can come."""
    return free_time(line, cells) is not None
