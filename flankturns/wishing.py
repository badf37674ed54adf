"""Wishes: colours that some cells shall have."""

from flankturns.lines import swings
from flankturns.steps import rest


def shows_wish(cells, wish):
    """Whether some colours are as wished."""
    return all([wished is None or colour == wished for colour, wished in zip(cells, wish)])


def comes_to(line, wish):
    """Whether a line comes to rest with the wished colours."""
    return not swings(line) and shows_wish(rest(line)[0], wish)
