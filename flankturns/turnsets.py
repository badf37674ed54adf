"""Sets of cells inside a line that turn one at a time: no two are neighbours, and each one turns once.

Numbers of sets are lists: item k is how many of them have k cells.
"""


def plus(one, other):
    """The sums of the items of two lists, the shorter one being filled up with 0."""
    long, short = (one, other) if len(one) >= len(other) else (other, one)
    return [number + (short[k] if k < len(short) else 0) for k, number in enumerate(long)]


def times(one, other):
    """How many sets are joined of two sets, from the numbers of both."""
    found = [0] * (len(one) + len(other) - 1)
    for k, many in enumerate(one):
        for m, more in enumerate(other):
            found[k + m] += many * more
    return found


def left_around(place, many):
    """How many of so many ready cells in a row are left before and behind the one at a place when it has turned."""
    return max(place - 1, 0), max(many - place - 2, 0)


def row_comes(many):
    """The numbers of sets that can turn among so many cells in a row."""
    shorter, found = [1], [1]
    for _ in range(many):
        shorter, found = found, plus(found, [0] + shorter)
    return found


def row_ends(many):
    """The numbers of sets behind which none of so many cells in a row is ready."""
    # The first two cells or all three have one in the set, and behind it one that is not.
    lists = [[0], [1], [1]]
    for _ in range(many):
        lists.append([0] + plus(lists[-2], lists[-3]))
    return lists[-1]


def ring_comes(many):
    """The numbers of sets that can turn among so many cells in a ring, 4 or more."""
    return plus(row_comes(many - 1), [0] + row_comes(many - 3))


def ring_ends(many):
    """The numbers of sets behind which none of so many cells in a ring, 4 or more and even, is ready."""
    found = [0] + [2 * number for number in row_ends(many - 3)]
    if many == 4:
        return found
    return plus(found, [0, 0] + row_ends(many - 6))


def row_sets(cells):
    """All sets behind which none of some cells in a row is ready, as tuples."""
    if not cells:
        return [()]
    found = [cells[:1] + some for some in row_sets(cells[2:])]
    if len(cells) > 1:
        found += [cells[1:2] + some for some in row_sets(cells[3:])]
    return found


def ring_sets(cells):
    """All sets behind which none of some cells in a ring, 4 or more and even, is ready, as tuples."""
    found = [cells[:1] + some for some in row_sets(cells[2:-1])]
    found += [cells[1:2] + some for some in row_sets(cells[3:])]
    # The third kind has neither of the first two cells, so it has both cells beside them.
    if len(cells) > 4:
        found += [(cells[2], cells[-1]) + some for some in row_sets(cells[4:-2])]
    return found
