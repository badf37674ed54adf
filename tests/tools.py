"""What the tests share: lines told by the plain words of the document, and wrong values of every kind."""

import itertools

ANYTHING = [True, False, None, "", "1", "01*0", -1, 0, 1, 10 ** 30, (), (0,), (0, 1, 0), [], [0, 1], {}, {0: 1}]

GOOD_LINE = ((0, 1, 0, 1, 0), (), False)
SWINGING = ((0, 1, 0, 1), (), True)

# Values that are no line, each with the index that BadLine has for it.
BAD_LINES = [(value, None) for value in ANYTHING] + [
    (((0, 1, 0), ()), None),
    (((0, 1, 0), (), False, 0), None),
    ([(0, 1, 0), (), False], None),
    (([0, 1, 0], (), False), None),
    (("010", (), False), None),
    ((None, (), False), None),
    (({0: 1}, (), False), None),
    ((3, (), False), None),
    (((), (), False), None),
    (((0,) * 41, (), False), None),
    (((0, 1), (), True), None),
    (((0,), (), True), None),
    (((), (), True), None),
    (((0,) * 41, (), True), None),
    (((10,) * 41, (), False), None),
    (((10, 10), (), True), None),
    (((0, 1, 0), (), 0), None),
    (((0, 1, 0), (), 1), None),
    (((0, 1, 0), (), None), None),
    (((0, 1, 0), (), "o"), None),
    (((0, 1, 0), [], False), None),
    (((0, 1, 0), None, False), None),
    (((0, 1, 0), 1, False), None),
    (((0, 1, 0), {}, False), None),
    (((0, 1, 0), (3,), False), None),
    (((0, 1, 0), (-1,), False), None),
    (((0, 1, 0), (1, 0), False), None),
    (((0, 1, 0), (1, 1), False), None),
    (((0, 1, 0), (True,), False), None),
    (((0, 1, 0), (False, 1), False), None),
    (((0, 1, 0), ("1",), False), None),
    (((0, 1, 0), (None,), False), None),
    (((0, 1, 0), (0, 2, 1), True), None),
    (((0, 1, 0, 1), (9,), True), None),
    (((0, 1, 0, 1), (), 1), None),
    (((0, 10), (), False), 1),
    (((10, 10), (), False), 0),
    (((-1, 0), (), False), 0),
    (((True, 0), (), False), 0),
    (((0, 0, False), (), False), 2),
    (((0, "1", 0), (), True), 1),
    (((0, 0, None), (), True), 2),
    (((0, 0, (1,)), (), True), 2),
    (((0, [], 10), (), True), 1),
    (((0, {}, 10), (), True), 1),
    (((0,) * 39 + (10,), (), True), 39),
    (((0, 10, 0), (5,), False), 1),
    (((0, 10, 0), None, False), 1),
]

BAD_FRAMES = ANYTHING + [
    (3, ()),
    (3, (), False, 0),
    [3, (), False],
    (0, (), False),
    (41, (), False),
    (-3, (), False),
    (2, (), True),
    (41, (), True),
    (True, (), False),
    (False, (), False),
    ("3", (), False),
    (None, (), False),
    ((0, 1, 0), (), False),
    ([3], (), False),
    ({}, (), True),
    (3, (), 0),
    (3, (), 1),
    (3, (), None),
    (3, (), "o"),
    (3, [], False),
    (3, None, False),
    (3, 0, False),
    (3, {}, False),
    (3, (3,), False),
    (3, (-1,), False),
    (3, (1, 0), False),
    (3, (1, 1), True),
    (3, (True,), False),
    (3, ("1",), False),
]

BAD_CELLS = ANYTHING + [
    (0, 1, 0, 1),
    (0, 1, 0, 1, 0, 1),
    [0, 1, 0, 1, 0],
    (0, 1, 0, 1, 10),
    (0, 1, -1, 1, 0),
    (0, True, 0, 1, 0),
    (False, 1, 0, 1, 0),
    (0, 1, None, 1, 0),
    ("0", "1", "0", "1", "0"),
    (0, 1, (0,), 1, 0),
    (0, 1, [], 1, 0),
    (0, 1, {}, 1, 0),
    "01010",
]

BAD_WISHES = ANYTHING + [
    (None,) * 4,
    (None,) * 6,
    [None] * 5,
    (0, 1, 0, 1, 10),
    (None, -1, None, None, None),
    (None, True, None, None, None),
    (False, None, None, None, None),
    (None, "1", None, None, None),
    (None, None, (), None, None),
    (None, None, [0], None, None),
    (None, None, {}, None, 0),
    {0: 0, 1: 1, 2: 0, 3: 1, 4: 0},
    "01010",
]

BAD_PRICES = ANYTHING + [
    (0,) * 4,
    (0,) * 6,
    [0] * 5,
    (0, 1, 2, 3, 1001),
    (0, 1, 2, 3, -1),
    (0, 1, True, 3, 4),
    (False, 1, 2, 3, 4),
    (None,) * 5,
    (0, 1, None, 3, 4),
    (0, 1, "2", 3, 4),
    (0, 1, (2,), 3, 4),
    (0, [], 2, 3, 4),
    (0, {}, 2, 3, 4),
    (0, 1, 2, 3, 10 ** 30),
    "01010",
]

BAD_SIGHTS = ANYTHING + [(wish, (None,) * 5) for wish in BAD_WISHES] + [((None,) * 5, wish) for wish in BAD_WISHES] + [
    ((None,) * 5,),
    ((None,) * 5, (None,) * 5, (None,) * 5),
    [(None,) * 5, (None,) * 5],
    (None,) * 5,
    {0: (None,) * 5, 1: (None,) * 5},
]

BAD_ODDS = [value for value in ANYTHING if value != (0, 1, 0)] + [
    (0, 0, 0),
    (1,) * 11,
    [1, 1],
    (1, 101),
    (1, -1),
    (1, True),
    (False, 1),
    (1, None),
    (1, "1"),
    (1, (1,)),
    (1, []),
    (1, {}),
    (10 ** 30, 1),
    "11",
]

# Values that are no ascending tuple of unlike cells of a line with 4 or 5 cells.
BAD_HELD = [value for value in ANYTHING if value not in ((), (0,))] + [
    (1, 0), (1, 1), (0, 3, 2), (5,), (-1,), (0, 40), (True,), (False, 1), ("1",), (None,), ((0,),), [1], [], {1: 1},
    (10 ** 30,)]

BAD_TOLD = [value for value in ANYTHING if value not in ((0,), (0, 1, 0))] + [
    (0,) * 42,
    (0, 1) * 21,
    [0, 1, 0],
    (0, 10),
    (-1, 0),
    (True, False),
    (0, True),
    (0, None),
    (None,),
    (0, "1"),
    ((0,),),
    (0, []),
    (0, {}),
    (0, 10 ** 30),
    "010",
    {0: 0, 1: 1},
]

BAD_NAMES = ANYTHING + [
    tuple(range(9)),
    tuple(range(11)),
    list(range(10)),
    "0123456789",
    (0,) * 10,
    (0, 1, 2, 3, 4, 5, 6, 7, 8, 8),
    (0, 1, 2, 3, 4, 5, 6, 7, 8, 10),
    tuple(range(1, 11)),
    (-1, 1, 2, 3, 4, 5, 6, 7, 8, 9),
    (False, 1, 2, 3, 4, 5, 6, 7, 8, 9),
    (0, True, 2, 3, 4, 5, 6, 7, 8, 9),
    (0, 1, 2, 3, 4, 5, 6, 7, 8, None),
    (0, 1, 2, 3, 4, 5, 6, 7, 8, "9"),
    (0, 1, 2, 3, 4, 5, 6, 7, 8, (9,)),
    (0, 1, 2, 3, 4, 5, 6, 7, 8, []),
    (0, 1, 2, 3, 4, 5, 6, 7, 8, {}),
    {name: name for name in range(10)},
]

# Values that are no web, each with the index that BadWeb has for it.
BAD_WEBS = [(value, None) for value in ANYTHING if value not in ((0,), (0, 1, 0))] + [
    ((0,), 0),
    ((0, 1, 0), 0),
    ((GOOD_LINE,) * 7, None),
    ((None,) * 7, None),
    ([GOOD_LINE], None),
    ({0: GOOD_LINE}, None),
    (GOOD_LINE, 0),
    ((GOOD_LINE,) * 5 + (None,), 5),
    ((GOOD_LINE, None, None), 1),
] + [((value,), 0) for value, _ in BAD_LINES] + [((GOOD_LINE, SWINGING, value, None), 2) for value, _ in BAD_LINES]

# Values that do not tell painted cells of a frame with 5 cells.
BAD_PAINTED = ANYTHING + [
    (None,) * 4,
    (None,) * 6,
    [None] * 5,
    (1, None, None, None, None),
    (0, 0, None, None, None),
    (0, 1, 1, None, None),
    (0, 1, 0, 1, 1),
    (0, 0, 0, 0, 1),
    (0, 1, 2, None, None),
    (0, 1, -1, None, None),
    (False, None, None, None, None),
    (0, True, None, None, None),
    (0, "1", None, None, None),
    ("", None, None, None, None),
    (0, (1,), None, None, None),
    (0, [], None, None, None),
    (0, {}, None, None, None),
    (0, 1, 10 ** 30, None, None),
    {cell: None for cell in range(5)},
    "01010",
]

# Values that are no picture.
NO_PICTURES = [
    "0101",
    ["0101", "0011"],
    {"0101": "0011"},
    ("0101",),
    ("0101", "0011", "0011"),
    ("0011", "0101"),
    ("0101", "0010"),
    ("0101", "0111"),
    (" 0101", "0011"),
    ("0101", "0011 "),
    ("01 01", "0011"),
    ("0101", None),
    (None, "0011"),
    ("0101", 11),
    (101, 11),
    (("0101", "0011"),),
    (["0101"], "0011"),
    ({}, "0011"),
    ("0101", ()),
    ("0101", ("0011",)),
    ("0101o",),
    ("0101o", "1010o", "0101o"),
    ("0101o", "0101o"),
    ("",),
    ("x",),
    ("01*0",) * 2,
    ("0" * 41,),
    (True,),
    ("0", True),
    (((0, 1, 0, 1), (), False),),
]

NO_FLAGS = [None, 0, 1, -1, 2, "", "True", (), (True,), [], [True], {}, {True: True}, 10 ** 30]

NO_INTEGERS = [True, False, None, "", "1", (), (1,), [], [1], {}, {1: 1}]


def no_integer_within(low, high):
    """Values that are no integer from low to high."""
    return NO_INTEGERS + [low - 1, high + 1, -(10 ** 30), 10 ** 30]


def held_tuples(many, most=40):
    """All tuples of held cells, with no more than the most."""
    return [some for number in range(min(many, most) + 1) for some in itertools.combinations(range(many), number)]


def frames_of(sizes, is_ring, most_held=40):
    """All frames with such numbers of cells."""
    return [(many, held, is_ring) for many in sizes for held in held_tuples(many, most_held)]


def lines_of(frame, colours):
    """All lines with a frame, ascending."""
    many, held, is_ring = frame
    return [(cells, held, is_ring) for cells in itertools.product(range(colours), repeat=many)]


def in_turn(places, is_ring=False):
    """A line of two colours in turn, with cells held at some places."""
    many, *held = places
    return tuple(cell % 2 for cell in range(many)), tuple(held), is_ring


def sample_lines():
    """Rows and rings whose colours can come in several ways, and some in which nothing turns."""
    found = []
    for frame in frames_of((1, 2, 3, 4), False) + frames_of((3, 4), True):
        found += lines_of(frame, 3)
    for frame in frames_of((5, 6), False, 1) + frames_of((5, 6), True, 1):
        found += lines_of(frame, 2)
    for many in (7, 8, 9, 10, 11):
        for held in [()] + [(cell,) for cell in range(0, many, 3)] + [(1, many - 2), (3, 4)]:
            found.append(in_turn((many,) + held))
            found.append(in_turn((many,) + held, True))
    found.append(((0, 1, 0, 2, 0, 2, 3, 2, 3), (), False))
    found.append(((0, 1, 0, 2, 0, 2, 3, 2, 3, 0), (), True))
    return found


def random_frame(luck, most, is_ring=None):
    """A frame with up to the most cells, some of them held."""
    is_ring = luck.random() < 0.6 if is_ring is None else is_ring
    many = luck.randint(3 if is_ring else 1, most)
    share = luck.choice([0, 0, 0.2, 0.5])
    return many, tuple(cell for cell in range(many) if luck.random() < share), is_ring


def random_line(luck, most, colours):
    """A line with up to the most cells, of some colours or of two in turn."""
    many, held, is_ring = random_frame(luck, most)
    if luck.random() < 0.4:
        return tuple(cell % 2 for cell in range(many)), held, is_ring
    return tuple(luck.randrange(colours) for _ in range(many)), held, is_ring


def random_wish(luck, many, colours, share=None):
    """A wish for so many cells, with that share of cells that have a colour."""
    share = luck.choice([0, 0.1, 0.3, 0.6, 1]) if share is None else share
    return tuple(luck.randrange(colours) if luck.random() < share else None for _ in range(many))


def held_too(line, cells):
    """A line with some cells held, too."""
    return line[0], tuple(sorted(set(line[1]) | set(cells))), line[2]


def is_as_wished(cells, wish):
    """Whether cells have the wished colours."""
    return all(wished is None or colour == wished for colour, wished in zip(cells, wish))


def small_lines():
    """Rows and rings with any held cells, and all colours that matter for them."""
    found = []
    for frame in frames_of((1, 2, 3, 4), False) + frames_of((3, 4), True):
        found += lines_of(frame, 3)
    for frame in frames_of((5, 6, 7), False, 2) + frames_of((5, 6, 7), True, 2):
        found += lines_of(frame, 2)
    for frame in frames_of((8,), False, 1) + frames_of((8,), True, 1):
        found += lines_of(frame, 2)
    return found


def plain_ready(line):
    """The ready cells, cell by cell as the document says it."""
    cells, held, is_ring = line
    many = len(cells)
    found = []
    for cell in range(many):
        if cell in held or not is_ring and cell in (0, many - 1):
            continue
        left, right = cells[(cell - 1) % many], cells[(cell + 1) % many]
        if left == right and left != cells[cell]:
            found.append(cell)
    return tuple(found)


def plain_turned(line, cell):
    """The line in which a cell has the colour of the one ahead of it."""
    cells, held, is_ring = line
    changed = list(cells)
    changed[cell] = cells[cell - 1]
    return tuple(changed), held, is_ring


def plain_step(line):
    """The line in which all ready cells have turned at once."""
    cells, held, is_ring = line
    ready = plain_ready(line)
    return tuple(cells[k - 1] if k in ready else cells[k] for k in range(len(cells))), held, is_ring


def plain_swings(line):
    """Whether the line comes back to itself behind two steps, but not behind one."""
    once = plain_step(line)
    return once != line and plain_step(once) == line


def plain_course(line):
    """The lines at first and behind 1, 2, .. steps, until it is at rest; None if it never is."""
    found = [line]
    while True:
        behind = plain_step(found[-1])
        if behind == found[-1]:
            return found
        if behind in found:
            return None
        found.append(behind)


def plain_rest(line):
    """The colours of a line at rest, None if it never is."""
    course = plain_course(line)
    return None if course is None else course[-1][0]


def levels_of(line):
    """For 0, 1, .. turns one at a time a dict from the colours that can come to the numbers of orders."""
    level = {line[0]: 1}
    found = []
    while level:
        found.append(level)
        behind = {}
        for cells, number in level.items():
            one = (cells,) + line[1:]
            for cell in plain_ready(one):
                turned = plain_turned(one, cell)[0]
                behind[turned] = behind.get(turned, 0) + number
        level = behind
    return found


def is_still(line, cells):
    """Whether no cell of a line is ready if it has some colours."""
    return not plain_ready((cells,) + line[1:])


def ratio_of(value):
    """The ratio that a fraction is."""
    return value.numerator, value.denominator
