"""Promise 32: a desk."""

import random
import unittest

from flankturns.desk import Desk
from flankturns.errors import BadLine, FlankError, InvalidLine, NothingToRedo, NothingToUndo, NotText
from flankturns.hands import worth
from flankturns.linetext import read_line, write_line
from flankturns.singles import end_count
from tests.tools import (ANYTHING, BAD_LINES, GOOD_LINE, SWINGING, in_turn, plain_course, plain_ready, plain_step,
                         plain_turned, random_line)

QUESTIONS = ("line", "ready", "time", "ends", "worth")
NUMBERS = [str(number) for number in range(100)]


def answers_of(line):
    """The answers to all questions about a line."""
    course = plain_course(line)
    ready = " ".join(str(cell) for cell in plain_ready(line))
    return [write_line(line), ready or "none", "swings" if course is None else str(len(course) - 1),
            str(end_count(line)), str(worth(line))]


def allowed_words(line, words):
    """The words that can stand behind some words, None where no word can."""
    cells, held, _ = line
    every = range(len(cells))
    if not words:
        return ["turn", "paint", "hold", "free", "step"] + list(QUESTIONS)
    if len(words) == 1:
        cells_allowed = {"turn": plain_ready(line), "paint": every, "hold": [k for k in every if k not in held],
                         "free": held}
        return [str(k) for k in cells_allowed[words[0]]] if words[0] in cells_allowed else None
    if len(words) == 2 and words[0] == "paint":
        return [str(colour) for colour in range(10) if colour != cells[int(words[1])]]
    return None


def wrong_word(line, words):
    """The number of the first word that cannot stand, or of the one that is missing; None if all is right."""
    for at in range(len(words) + 1):
        allowed = allowed_words(line, words[:at])
        if at == len(words):
            return None if allowed is None else at + 1
        if allowed is None or words[at] not in allowed:
            return at + 1
    return None


def line_behind(line, words):
    """The line behind a step that can be done."""
    cells, held, is_ring = line
    if words[0] == "step":
        return plain_step(line)
    cell = int(words[1])
    if words[0] == "turn":
        return plain_turned(line, cell)
    if words[0] == "hold":
        return cells, tuple(sorted(held + (cell,))), is_ring
    if words[0] == "free":
        return cells, tuple(k for k in held if k != cell), is_ring
    changed = list(cells)
    changed[cell] = int(words[2])
    return tuple(changed), held, is_ring


def random_words(luck, line):
    """Words that can often stand, and often cannot."""
    words = []
    while luck.random() < 0.97:
        allowed = allowed_words(line, words)
        if not allowed or luck.random() < 0.08:
            if luck.random() < 0.8:
                break
            allowed = ["0", "00", "1", "01", "7", "10", "40", "99", "100", "-1", "x", "turn", "line", "step", "o"]
        words.append(luck.choice(allowed))
        if wrong_word(line, words) not in (None, len(words) + 1):
            break
    return words


class TestDesk(unittest.TestCase):
    def assert_invalid(self, desk, text, word):
        kept = desk.line, desk.steps
        with self.assertRaises(InvalidLine) as caught:
            desk.run(text)
        self.assertEqual(caught.exception.word, word, (desk.line, text))
        self.assertEqual((desk.line, desk.steps), kept, text)

    def assert_answers(self, desk):
        self.assertEqual([desk.run(word) for word in QUESTIONS], answers_of(desk.line))

    def test_properties(self):
        for line in (GOOD_LINE, SWINGING, in_turn((40, 3), True), ((9,), (0,), False)):
            desk = Desk(line)
            self.assertEqual([desk.line, desk.steps], [line, ()])
            self.assertIsInstance(type(desk).line, property)
            self.assertIsInstance(type(desk).steps, property)
        for name in ("__init__", "run", "undo", "redo", "line", "steps"):
            self.assertIn(name, vars(Desk))

    def test_each_question(self):
        luck = random.Random(320)
        for line in [GOOD_LINE, SWINGING, in_turn((40,)), in_turn((40,), True), ((5,), (), False)] + [
                random_line(luck, 12, 3) for _ in range(60)]:
            desk = Desk(line)
            self.assert_answers(desk)
            self.assertEqual([desk.line, desk.steps], [line, ()])
        desk = Desk(SWINGING)
        self.assertEqual([desk.run(word) for word in QUESTIONS], ["0101o", "0 1 2 3", "swings", "2", "0"])
        desk = Desk(((0, 0, 1), (1,), False))
        self.assertEqual([desk.run(word) for word in QUESTIONS], ["00*1", "none", "0", "1", "0"])

    def test_each_step(self):
        desk = Desk(GOOD_LINE)
        for text, behind in [("turn 2", "01110"), ("paint 2 0", "01010"), ("hold 1", "01*010"), ("step", "01*100"),
                             ("paint 4 9", "01*109"), ("hold 0", "0*1*109"), ("free 1", "0*1109"),
                             ("paint 2 0", "0*1009"), ("turn 1", "0*0009"), ("hold 4", "0*0009*"),
                             ("free 0", "00009*"), ("step", "00009*"), ("paint 0 1", "10009*")]:
            self.assertIsNone(desk.run(text))
            self.assertEqual(desk.line, read_line(behind))
            self.assert_answers(desk)
        self.assertEqual(len(desk.steps), 13)
        ring = Desk(SWINGING)
        for text, behind in [("step", "1010o"), ("turn 0", "0010o"), ("step", "0000o"), ("hold 3", "0000*o")]:
            self.assertIsNone(ring.run(text))
            self.assertEqual(ring.run("line"), behind)

    def test_loose_spaces(self):
        desk = Desk(GOOD_LINE)
        for text in (" turn 2", "paint   2  0 ", "  hold 1", "step  ", "  free    1   "):
            self.assertIsNone(desk.run(text))
        self.assertEqual(desk.steps, (" turn 2", "paint   2  0 ", "  hold 1", "step  ", "  free    1   "))
        self.assertEqual([desk.run("   line "), desk.run(" time")], ["01100", "0"])
        for text, word in [("\tstep", 1), ("step\n", 1), ("turn\t1", 1), ("turn 1\n", 2), ("line\u00a0", 1),
                           ("paint 1\t 0", 2), (" \n ", 1)]:
            self.assert_invalid(desk, text, word)

    def test_words_missing_wrong_and_too_many(self):
        line = ((0, 1, 0, 2, 2), (1, 4), False)
        for text, word in [("", 1), ("   ", 1), ("x", 1), ("Turn 1", 1), ("turns 1", 1), ("turn1", 1), ("1 turn", 1),
                           ("undo", 1), ("redo", 1), ("steps", 1), ("held 1", 1),
                           ("turn", 2), ("turn x", 2), ("turn 0", 2), ("turn 1", 2), ("turn 3", 2), ("turn 5", 2),
                           ("turn x y", 2), ("turn 1 1", 2),
                           ("paint", 2), ("paint 5", 2), ("paint 5 0", 2), ("paint x 0", 2), ("paint 1", 3),
                           ("paint 1 1", 3), ("paint 1 x", 3), ("paint 1 10", 3), ("paint 3 2", 3), ("paint 1 0 0", 4),
                           ("paint 1 1 1", 3), ("paint 9 9 9 9", 2), ("paint 1 2 3 4 5", 4),
                           ("hold", 2), ("hold 1", 2), ("hold 4", 2), ("hold 5", 2), ("hold 0 0", 3), ("hold 1 0", 2),
                           ("free", 2), ("free 0", 2), ("free 2", 2), ("free 5", 2), ("free 1 4", 3), ("free 0 1", 2),
                           ("step 1", 2), ("step step", 2), ("step 1 2", 2), ("line x", 2), ("ready 1", 2),
                           ("time 0 0", 2), ("ends ends", 2), ("worth line", 2), ("line line line", 2)]:
            self.assert_invalid(Desk(line), text, word)
        self.assert_invalid(Desk(GOOD_LINE), "turn 2 2", 3)
        self.assert_invalid(Desk(GOOD_LINE), "turn 2 x y", 3)

    def test_numbers(self):
        line = in_turn((40,))
        for word in ("00", "01", "02", "012", "002", "100", "999", "-1", "+1", "1.0", "1e0", "0x1", "1_0", "a", "*",
                     "\u0661", "\u00b2", "1\u0661", "40", "99", "1" * 50, "2,"):
            for text in (f"turn {word}", f"hold {word}", f"free {word}", f"paint {word} 5"):
                self.assert_invalid(Desk(line), text, 2)
            if word not in ("40", "99"):
                self.assert_invalid(Desk(line), f"paint 1 {word}", 3)
        for word in NUMBERS:
            desk = Desk(line)
            if 0 < int(word) < 39:
                self.assertIsNone(desk.run("turn " + word))
                self.assertEqual(desk.line, plain_turned(line, int(word)))
            else:
                self.assert_invalid(desk, "turn " + word, 2)
            if int(word) < 10 and word != "1":
                self.assertIsNone(Desk(line).run("paint 1 " + word))
            else:
                self.assert_invalid(Desk(line), "paint 1 " + word, 3)

    def test_undo_and_redo(self):
        desk = Desk(GOOD_LINE)
        self.assertRaises(NothingToUndo, desk.undo)
        self.assertRaises(NothingToRedo, desk.redo)
        desk.run("turn 2")
        self.assertRaises(NothingToRedo, desk.redo)
        desk.run(" hold 1 ")
        desk.run("step")
        lines = [desk.line]
        for _ in range(3):
            self.assertIsNone(desk.undo())
            lines.append(desk.line)
        self.assertEqual(lines, [read_line("01*110"), read_line("01*110"), read_line("01110"), GOOD_LINE])
        self.assertEqual(desk.steps, ())
        self.assertRaises(NothingToUndo, desk.undo)
        self.assertIsNone(desk.redo())
        self.assertEqual([desk.steps, desk.line], [("turn 2",), read_line("01110")])
        desk.redo()
        self.assertEqual([desk.steps, desk.line], [("turn 2", " hold 1 "), read_line("01*110")])
        # Neither questions nor what raises an error end what can be done again; a new step does.
        desk.run("line")
        self.assert_invalid(desk, "turn 1", 2)
        self.assertRaises(NotText, desk.run, None)
        desk.redo()
        self.assertEqual(desk.steps, ("turn 2", " hold 1 ", "step"))
        self.assertRaises(NothingToRedo, desk.redo)
        desk.undo()
        desk.undo()
        desk.run("step")
        self.assertRaises(NothingToRedo, desk.redo)
        self.assertEqual(desk.steps, ("turn 2", "step"))
        desk.undo()
        desk.undo()
        self.assertEqual([desk.steps, desk.line], [(), GOOD_LINE])

    def test_any_words(self):
        luck = random.Random(321)
        for _ in range(150):
            line = random_line(luck, 14, 3)
            desk = Desk(line)
            done, undone = [(None, line)], []
            for _ in range(25):
                if luck.random() < 0.15:
                    if len(done) == 1:
                        self.assertRaises(NothingToUndo, desk.undo)
                    else:
                        desk.undo()
                        undone.append(done.pop())
                elif luck.random() < 0.15:
                    if not undone:
                        self.assertRaises(NothingToRedo, desk.redo)
                    else:
                        desk.redo()
                        done.append(undone.pop())
                else:
                    words = random_words(luck, desk.line)
                    text = " " * luck.randrange(2) + (" " * luck.randint(1, 2)).join(words) + " " * luck.randrange(2)
                    wrong = wrong_word(desk.line, words)
                    if wrong is not None:
                        self.assert_invalid(desk, text, wrong)
                    elif words[0] in QUESTIONS:
                        self.assertEqual(desk.run(text), answers_of(desk.line)[QUESTIONS.index(words[0])])
                    else:
                        behind = line_behind(desk.line, words)
                        self.assertIsNone(desk.run(text))
                        done.append((text, behind))
                        undone = []
                self.assertEqual(desk.line, done[-1][1])
                self.assertEqual(desk.steps, tuple(text for text, _ in done[1:]))

    def test_desks_by_themselves(self):
        one, other = Desk(GOOD_LINE), Desk(GOOD_LINE)
        steps = one.steps
        one.run("step")
        self.assertEqual([steps, other.steps, other.line], [(), (), GOOD_LINE])
        self.assertRaises(NothingToUndo, other.undo)

    def test_bad_lines(self):
        for value, index in BAD_LINES:
            with self.assertRaises(BadLine) as caught:
                Desk(value)
            self.assertEqual(caught.exception.index, index, value)

    def test_no_texts(self):
        desk = Desk(GOOD_LINE)
        desk.run("turn 2")
        desk.run("step")
        desk.undo()
        kept = desk.line, desk.steps
        for value in ANYTHING + [("step",), ["step"], {"step": "step"}]:
            if not isinstance(value, str):
                self.assertRaises(NotText, desk.run, value)
            else:
                self.assertRaises(InvalidLine, desk.run, value)
            self.assertEqual((desk.line, desk.steps), kept)
        desk.redo()
        self.assertEqual(desk.steps, ("turn 2", "step"))
        self.assertTrue(issubclass(InvalidLine, FlankError))
