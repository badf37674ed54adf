"""Promise 31: pictures."""

import random
import unittest

from flankturns.errors import BadLine, InvalidText
from flankturns.linetext import read_line, write_line
from flankturns.pictures import picture, read_picture
from tests.tools import (ANYTHING, BAD_LINES, NO_PICTURES, SWINGING, in_turn, plain_course, plain_step, random_line,
                         small_lines)


def plain_picture(line):
    """The texts of a line at first and behind each step, told one by one."""
    course = plain_course(line)
    return tuple(write_line(one) for one in ([line, plain_step(line)] if course is None else course))


def plain_line(texts):
    """The line of which some texts are the picture, None without any."""
    try:
        line = read_line(texts[0])
    except InvalidText:
        return None
    return line if plain_picture(line) == texts else None


def some_lines():
    """Small lines and long ones."""
    luck = random.Random(310)
    return small_lines()[::3] + [random_line(luck, 40, 3) for _ in range(30)] + [
        in_turn((40,)), in_turn((40,), True), in_turn((40, 0), True), in_turn((39, 38)), ((0,), (), False),
        ((0,), (0,), False), ((9,) * 40, tuple(range(40)), True)]


class TestPictures(unittest.TestCase):
    def test_steps_one_by_one(self):
        for line in some_lines():
            texts = plain_picture(line)
            self.assertEqual(picture(line), texts, line)
            self.assertEqual(read_picture(texts), line)

    def test_pictures_that_are_changed(self):
        for line in some_lines()[::3]:
            texts = picture(line)
            self.assertIsNone(read_picture(texts[:-1]), line)
            self.assertIsNone(read_picture(texts + texts[-1:]), line)
            self.assertIsNone(read_picture(texts + texts[:1]), line)
            self.assertIsNone(read_picture(list(texts)), line)
            if len(texts) > 2:
                self.assertIsNone(read_picture(texts[:1] + texts[2:]), line)
                # The line one step further has a picture of its own.
                self.assertEqual(read_picture(texts[1:]), plain_step(line))
            for place, text in enumerate(texts):
                for other in (text + " ", " " + text, text[:-1] + " " + text[-1:], "", None, 0, (text,)):
                    self.assertIsNone(read_picture(texts[:place] + (other,) + texts[place + 1:]), (line, other))
                for other in (text[:-1], text + "0", text + "*", text + "o", text.replace("0", "7")):
                    some = texts[:place] + (other,) + texts[place + 1:]
                    self.assertEqual(read_picture(some), plain_line(some), some)

    def test_lines_at_rest(self):
        self.assertEqual(picture(((0, 0, 1, 1), (), False)), ("0011",))
        self.assertEqual(picture(((0, 1, 0), (1,), False)), ("01*0",))
        self.assertEqual(read_picture(("01*0",)), ((0, 1, 0), (1,), False))
        self.assertEqual(read_picture(("0",)), ((0,), (), False))

    def test_lines_that_swing(self):
        self.assertEqual(picture(SWINGING), ("0101o", "1010o"))
        self.assertEqual(read_picture(("0101o", "1010o")), SWINGING)
        self.assertEqual(picture(in_turn((40,), True)), ("01" * 20 + "o", "10" * 20 + "o"))
        self.assertIsNone(read_picture(("0101o",)))
        self.assertIsNone(read_picture(("0101o", "1010o", "0101o")))

    def test_forty_cells(self):
        texts = picture(in_turn((40, 0), True))
        self.assertEqual((len(texts), texts[-1]), (21, "0*" + "0" * 39 + "o"))
        self.assertEqual(read_picture(texts), in_turn((40, 0), True))
        self.assertIsNone(read_picture(("0" * 41,)))

    def test_any_value(self):
        for value in ANYTHING + NO_PICTURES + [(value,) for value in ANYTHING if value != "1" and value != "01*0"]:
            self.assertIsNone(read_picture(value), value)
        for value in ANYTHING:
            self.assertIsNone(read_picture(("0101", value)), value)
            self.assertIsNone(read_picture((value, "0011")), value)

    def test_bad_lines(self):
        for value, index in BAD_LINES:
            with self.assertRaises(BadLine) as caught:
                picture(value)
            self.assertEqual(caught.exception.index, index, value)
