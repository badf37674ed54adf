"""Promise 4: texts of lines."""

import itertools
import unittest

from flankturns.errors import BadLine, InvalidText, NotText
from flankturns.linetext import read_line, write_line
from tests.tools import ANYTHING, BAD_LINES, small_lines


def plain_place(text):
    """The place of the first character that cannot stand, None if all can: each one told by what is before it."""
    for place, sign in enumerate(text):
        before = text[:place].replace(" ", "")
        digits = [one for one in before if one in "0123456789"]
        if sign == " ":
            stands = True
        elif "o" in before:
            stands = False
        elif sign in "0123456789":
            stands = len(digits) < 40
        elif sign == "*":
            stands = before != "" and before[-1] in "0123456789"
        else:
            stands = sign == "o" and len(digits) >= 3
        if not stands:
            return place
    return None if text.strip(" ") else len(text)


class TestTexts(unittest.TestCase):
    def assert_invalid(self, text, place):
        with self.assertRaises(InvalidText) as caught:
            read_line(text)
        self.assertEqual(caught.exception.place, place, text)

    def test_write(self):
        self.assertEqual(write_line(((0, 1, 2, 0), (1,), True)), "01*20o")
        self.assertEqual(write_line(((0, 1, 0), (1,), False)), "01*0")
        self.assertEqual(write_line(((0, 1, 0), (0, 2), False)), "0*10*")
        self.assertEqual(write_line(((9,), (), False)), "9")
        self.assertEqual(write_line(((9,), (0,), False)), "9*")
        self.assertEqual(write_line(((0, 0, 0), (0, 1, 2), True)), "0*0*0*o")
        self.assertEqual(write_line(((1, 2) * 20, (), True)), "12" * 20 + "o")

    def test_read(self):
        self.assertEqual(read_line(" 01* 0"), ((0, 1, 0), (1,), False))
        self.assertEqual(read_line("0120o"), ((0, 1, 2, 0), (), True))
        self.assertEqual(read_line("  0 *1 2 * o  "), ((0, 1, 2), (0, 2), True))
        self.assertEqual(read_line("9"), ((9,), (), False))
        self.assertEqual(read_line("0*"), ((0,), (0,), False))
        self.assertEqual(read_line(" " * 50 + "7"), ((7,), (), False))
        self.assertEqual(read_line("1 2" * 20), ((1, 2) * 20, (), False))
        self.assertEqual(read_line("1*2" * 20 + "o"), ((1, 2) * 20, tuple(range(0, 40, 2)), True))
        self.assertEqual(read_line("0123456789"), (tuple(range(10)), (), False))

    def test_read_is_what_was_written(self):
        for line in small_lines():
            self.assertEqual(read_line(write_line(line)), line)
            self.assertEqual(read_line(" ".join(" " + write_line(line))), line)

    def test_kinds_of_what_is_read(self):
        cells, held, is_ring = read_line("01*0")
        self.assertEqual([isinstance(cells, tuple), isinstance(held, tuple), is_ring], [True, True, False])
        self.assertIs(read_line("000o")[2], True)

    def test_invalid_texts(self):
        for text, place in [("00o", 2), ("o", 0), ("0o", 1), ("", 0), ("   ", 3), ("*", 0), (" *", 1), ("0**", 2),
                            ("0* *", 3), ("000oo", 4), ("000o0", 4), ("000o*", 4), ("000*oo", 5), ("000 o x", 6),
                            ("0x", 1), ("x", 0), ("0\t", 1), ("0\n", 1), ("0-1", 1), ("0.1", 1), ("00O", 2),
                            ("0\u0661", 1), ("0\u00b2", 1), ("0 0 o", 4), ("0a*", 1), ("(0)", 0), ("000o  1", 6),
                            ("0" * 41, 40), ("0" * 40 + " 0", 41), ("0" * 40 + "x", 40), ("1*" * 40 + "1", 80),
                            ("0" * 40 + "o0", 41), ("0*1**", 4), ("000 * *", 6)]:
            self.assert_invalid(text, place)

    def test_forty_digits(self):
        self.assertEqual(read_line("0" * 40), ((0,) * 40, (), False))
        self.assertEqual(read_line("0" * 40 + "*o"), ((0,) * 40, (39,), True))

    def test_all_short_texts(self):
        for length in range(6):
            for signs in itertools.product("07* ox", repeat=length):
                text = "".join(signs)
                place = plain_place(text)
                if place is not None:
                    self.assert_invalid(text, place)
                else:
                    self.assertEqual(write_line(read_line(text)), text.replace(" ", ""))

    def test_no_texts(self):
        for value in ANYTHING:
            if not isinstance(value, str):
                self.assertRaises(NotText, read_line, value)

    def test_bad_lines(self):
        for value, index in BAD_LINES:
            with self.assertRaises(BadLine) as caught:
                write_line(value)
            self.assertEqual(caught.exception.index, index, value)
