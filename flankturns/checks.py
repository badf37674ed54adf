"""Checks of arguments: each one raises the error that the document names for a wrong value."""

from flankturns.errors import (BadCell, BadCells, BadCount, BadFlag, BadFrame, BadIndex, BadKind, BadLine, BadNames,
                               BadOdds, BadPainted, BadPrices, BadSeen, BadSights, BadTime, BadWeb, BadWish, NotText)


def is_within(value, low, high):
    """Whether a value is an integer from low to high; True and False are none."""
    return isinstance(value, int) and not isinstance(value, bool) and low <= value <= high


def is_size(many, is_ring):
    """Whether a row (is_ring is False) or a ring (True) can have so many cells."""
    if is_ring is True:
        return is_within(many, 3, 40)
    return is_ring is False and is_within(many, 1, 40)


def are_cells(some, many):
    """Whether a value is an ascending tuple of unlike cells of a line with so many."""
    if not isinstance(some, tuple):
        return False
    if not all([is_within(cell, 0, many - 1) for cell in some]):
        return False
    return all([one < other for one, other in zip(some, some[1:])])


def check_line(line):
    """BadLine unless a value is a line."""
    if not isinstance(line, tuple) or len(line) != 3:
        raise BadLine(None)
    cells, held, is_ring = line
    if not isinstance(cells, tuple) or not is_size(len(cells), is_ring):
        raise BadLine(None)
    for index, colour in enumerate(cells):
        if not is_within(colour, 0, 9):
            raise BadLine(index)
    if not are_cells(held, len(cells)):
        raise BadLine(None)


def check_frame(frame):
    """BadFrame unless a value is a frame."""
    if not isinstance(frame, tuple) or len(frame) != 3:
        raise BadFrame("a frame is a tuple (many, held, is_ring)")
    many, held, is_ring = frame
    if not is_size(many, is_ring):
        raise BadFrame("no line has so many cells")
    if not are_cells(held, many):
        raise BadFrame("held cells are unlike and ascend")


def check_cell(cell, many):
    """BadCell unless a value is a cell of a line with so many."""
    if not is_within(cell, 0, many - 1):
        raise BadCell("the line has no such cell")


def check_cells(cells, many):
    """BadCells unless a value is a tuple of so many colours."""
    if not isinstance(cells, tuple) or len(cells) != many:
        raise BadCells("there is one colour for each cell")
    if not all([is_within(colour, 0, 9) for colour in cells]):
        raise BadCells("colours are integers from 0 to 9")


def check_time(many, most):
    """BadTime unless a value is a number of steps up to the most."""
    if not is_within(many, 0, most):
        raise BadTime("no such number of steps")


def check_count(many, least, most):
    """BadCount unless a value is an integer from the least to the most."""
    if not is_within(many, least, most):
        raise BadCount("no such number")


def check_colours(colours):
    """BadCount unless a value is a number of colours."""
    check_count(colours, 1, 10)


def check_held(cells, many):
    """BadCell unless a value is an ascending tuple of unlike cells of a line with so many."""
    if not are_cells(cells, many):
        raise BadCell("cells are unlike and ascend")


def is_wish(value, many):
    """Whether a value is a tuple with a colour, or None, for each of so many cells."""
    if not isinstance(value, tuple) or len(value) != many:
        return False
    return all([colour is None or is_within(colour, 0, 9) for colour in value])


def check_wish(wish, many):
    """BadWish unless a value is a wish for so many cells."""
    if not is_wish(wish, many):
        raise BadWish("a wish has a colour or None for each cell")


def check_sights(sights, many):
    """BadSights unless a value is a pair of wishes for so many cells."""
    if not isinstance(sights, tuple) or len(sights) != 2:
        raise BadSights("sights are a pair")
    if not all([is_wish(wish, many) for wish in sights]):
        raise BadSights("sights are a pair of wishes")


def check_prices(prices, many):
    """BadPrices unless a value is a tuple of prices for so many cells."""
    if not isinstance(prices, tuple) or len(prices) != many:
        raise BadPrices("there is one price for each cell")
    if not all([is_within(price, 0, 1000) for price in prices]):
        raise BadPrices("prices are integers from 0 to 1000")


def check_flag(is_more):
    """BadFlag unless a value is True or False."""
    if is_more is not True and is_more is not False:
        raise BadFlag("neither True nor False")


def check_odds(odds):
    """BadOdds unless a value is a tuple of odds."""
    if not isinstance(odds, tuple) or not 1 <= len(odds) <= 10:
        raise BadOdds("there are odds for one to ten colours")
    if not all([is_within(number, 0, 100) for number in odds]):
        raise BadOdds("odds are integers from 0 to 100")
    if max(odds) == 0:
        raise BadOdds("some colour comes")


def check_text(text):
    """NotText unless a value is a string."""
    if not isinstance(text, str):
        raise NotText("only a string is a text")


def check_index(index, many):
    """BadIndex unless a value is a number of one of so many, which are numbered from 0 on."""
    if not is_within(index, 0, many - 1):
        raise BadIndex("nothing has this number")


def check_seen(told):
    """BadSeen unless a value is a tuple of colours that a cell shows at first and behind steps."""
    if not isinstance(told, tuple) or not 1 <= len(told) <= 41:
        raise BadSeen("colours are told for 1 to 41 times")
    if not all([is_within(colour, 0, 9) for colour in told]):
        raise BadSeen("colours are integers from 0 to 9")


def check_row(line):
    """BadLine unless a value is a line, BadKind for a ring."""
    check_line(line)
    if line[2]:
        raise BadKind("a row is asked for")


def check_ring(line):
    """BadLine unless a value is a line, BadKind for a row."""
    check_line(line)
    if not line[2]:
        raise BadKind("a ring is asked for")


def check_names(names):
    """BadNames unless a value is a tuple of ten unlike colours."""
    if not isinstance(names, tuple) or not all([is_within(name, 0, 9) for name in names]):
        raise BadNames("names are colours")
    if sorted(names) != list(range(10)):
        raise BadNames("each colour is named once")


def check_web(web):
    """BadWeb unless a value is a web."""
    if not isinstance(web, tuple) or not 1 <= len(web) <= 6:
        raise BadWeb(None)
    for index, line in enumerate(web):
        try:
            check_line(line)
        except BadLine:
            raise BadWeb(index) from None


def check_painted(painted, many):
    """BadPainted unless a value tells which of so many cells two painters have painted."""
    if not isinstance(painted, tuple) or len(painted) != many:
        raise BadPainted("there is one item for each cell")
    if not all([colour is None or is_within(colour, 0, 1) for colour in painted]):
        raise BadPainted("cells have 0, 1 or nothing")
    if painted.count(0) - painted.count(1) not in (0, 1):
        raise BadPainted("the painters paint in turn")
