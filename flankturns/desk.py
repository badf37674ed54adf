"""A desk that keeps a line, and runs words upon it."""

from flankturns.checks import check_line, check_text
from flankturns.errors import InvalidLine, NothingToRedo, NothingToUndo
from flankturns.hands import worth
from flankturns.holds import with_held
from flankturns.lines import ready_cells, swings, turned
from flankturns.linetext import write_line
from flankturns.singles import end_count
from flankturns.steps import rest_time, step

DIGITS = "0123456789"


def number_of(word):
    """The number that a word tells, None if it tells none."""
    if len(word) > 2 or not all([sign in DIGITS for sign in word]):
        return None
    if len(word) == 2 and word[0] == "0":
        return None
    return int(word)


def number_at(words, place, allowed):
    """The number that a word tells, InvalidLine if it is missing or tells none of those that are allowed."""
    if place >= len(words) or number_of(words[place]) not in allowed:
        raise InvalidLine(place + 1)
    return int(words[place])


def check_last(words, many):
    """InvalidLine if there are more words than so many."""
    if len(words) > many:
        raise InvalidLine(many + 1)


def turn_cell(line, words):
    """The line in which a ready cell has turned."""
    cell = number_at(words, 1, ready_cells(line))
    check_last(words, 2)
    return turned(line, cell)


def paint_cell(line, words):
    """The line in which a cell has another colour."""
    cells, held, is_ring = line
    cell = number_at(words, 1, list(range(len(cells))))
    colour = number_at(words, 2, [other for other in range(10) if other != cells[cell]])
    check_last(words, 3)
    return cells[:cell] + (colour,) + cells[cell + 1:], held, is_ring


def hold_cell(line, words):
    """The line with a cell held that has not been named in held."""
    cells, held, _ = line
    cell = number_at(words, 1, [other for other in range(len(cells)) if other not in held])
    check_last(words, 2)
    return with_held(line, (cell,))


def free_cell(line, words):
    """The line without a cell that has been named in held."""
    cells, held, is_ring = line
    cell = number_at(words, 1, held)
    check_last(words, 2)
    return cells, tuple([other for other in held if other != cell]), is_ring


def step_all(line, words):
    """The line behind a step."""
    check_last(words, 1)
    return step(line)


def tell_line(line):
    """The text of a line."""
    return write_line(line)


def tell_ready(line):
    """The ready cells of a line."""
    return " ".join([str(cell) for cell in ready_cells(line)]) or "none"


def tell_time(line):
    """The number of steps that a line needs until it is at rest."""
    return "swings" if swings(line) else str(rest_time(line))


def tell_ends(line):
    """The number of ends of a line."""
    return str(end_count(line))


def tell_worth(line):
    """The worth of a line."""
    return str(worth(line))


CHANGES = {"turn": turn_cell, "paint": paint_cell, "hold": hold_cell, "free": free_cell, "step": step_all}
QUESTIONS = {"line": tell_line, "ready": tell_ready, "time": tell_time, "ends": tell_ends, "worth": tell_worth}


class Desk:
    """A line that is changed by steps, which can be taken back and done again."""

    def __init__(self, line):
        check_line(line)
        self._line = line
        self._texts = ()
        # Pairs of the text of a step and the line ahead of it, or behind it if it has been taken back.
        self._done = []
        self._taken_back = []

    @property
    def line(self):
        """The line as it is now."""
        return self._line

    @property
    def steps(self):
        """The tuple of the texts of the steps that are done."""
        return self._texts

    def run(self, text):
        """Do a step, or return the answer to a question."""
        check_text(text)
        words = [word for word in text.split(" ") if word]
        word = words[0] if words else ""
        if word in QUESTIONS:
            check_last(words, 1)
            tell = QUESTIONS[word]
            return tell(self._line)
        if word not in CHANGES:
            raise InvalidLine(1)
        change = CHANGES[word]
        behind = change(self._line, words)
        self._taken_back = []
        self._go_on(text, behind)
        return None

    def undo(self):
        """Take the last step back."""
        if not self._done:
            raise NothingToUndo("no step is done")
        text, ahead = self._done.pop()
        self._taken_back.append((text, self._line))
        self._texts = self._texts[:-1]
        self._line = ahead

    def redo(self):
        """Do the step again that was taken back last."""
        if not self._taken_back:
            raise NothingToRedo("no step is taken back")
        text, behind = self._taken_back.pop()
        self._go_on(text, behind)

    def _go_on(self, text, behind):
        """Keep that a step has led to the line behind it."""
        self._done.append((text, self._line))
        self._texts = self._texts + (text,)
        self._line = behind
