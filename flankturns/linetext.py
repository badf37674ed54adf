"""Texts that name lines."""

from flankturns.checks import check_line, check_text
from flankturns.errors import InvalidText

DIGITS = "0123456789"


def write_line(line):
    """The text that names a line."""
    check_line(line)
    cells, held, is_ring = line
    signs = [f"{colour}*" if cell in held else str(colour) for cell, colour in enumerate(cells)]
    return "".join(signs) + ("o" if is_ring else "")


def read_line(text):
    """The line that a text names."""
    check_text(text)
    cells = []
    held = []
    is_ring = False
    is_behind_digit = False
    for place, sign in enumerate(text):
        if sign == " ":
            continue
        if is_ring:
            raise InvalidText(place)
        if sign in DIGITS and len(cells) < 40:
            cells.append(int(sign))
            is_behind_digit = True
        elif sign == "*" and is_behind_digit:
            held.append(len(cells) - 1)
            is_behind_digit = False
        elif sign == "o" and len(cells) >= 3:
            is_ring = True
        else:
            raise InvalidText(place)
    if not cells:
        raise InvalidText(len(text))
    return tuple(cells), tuple(held), is_ring
