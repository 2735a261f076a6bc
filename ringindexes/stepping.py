"""What all step by step players ask of starts, hands and pieces of steps."""

from ringindexes.errors import NoSteps
from ringindexes.helpers import is_whole_from, is_word_of
from ringindexes.runs import MOST_TIMES

GREATEST_START = 10 ** 40


def check_start(at):
    """NoSteps for any object at which no counters start."""
    if not is_whole_from(at, 0, GREATEST_START):
        raise NoSteps(0)


def check_hand(hand, letters):
    """NoSteps for any object that is none of these hands."""
    if not is_word_of(hand, letters):
        raise NoSteps(0)


def check_steps(pieces, letters):
    """NoSteps for the first object that is no piece (times, hand) of these hands."""
    for at, piece in enumerate(pieces, start=1):
        if not is_piece_of_steps(piece, letters):
            raise NoSteps(at)


def is_piece_of_steps(thing, letters):
    """Whether the object is a piece (times, hand) of these hands."""
    if not isinstance(thing, tuple) or len(thing) != 2:
        return False
    return is_whole_from(thing[0], 0, MOST_TIMES) and is_word_of(thing[1], letters)
