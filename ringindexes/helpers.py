"""What several files need: which objects are integers and sizes, the lesser number, and how numbers are read."""

from ringindexes.errors import NoSize

GREATEST_SIZE = 10 ** 30


def is_whole(thing):
    """Whether the object is an integer; True and False are none."""
    return isinstance(thing, int) and not isinstance(thing, bool)


def is_whole_from(thing, low, high):
    """Whether the object is an integer from low to high."""
    return is_whole(thing) and low <= thing <= high


def is_word_of(thing, words):
    """Whether the object is one of these strings."""
    return isinstance(thing, str) and thing in words


def lesser(one, other):
    """The lesser one of two numbers."""
    return one if one < other else other


def is_size(thing):
    """Whether the object is a size."""
    return is_whole_from(thing, 1, GREATEST_SIZE)


def check_size(n):
    """NoSize for any object that is no size."""
    if not is_size(n):
        raise NoSize("a size is an integer from 1 to 10 ** 30")


def read_number(text, most):
    """The number that is written with these digits; None for any other text.

    At most so many digits are read, and no zero ahead of others.
    """
    # The length comes first: Python refuses to read integers of thousands of digits.
    if len(text) > most or not (text.isascii() and text.isdigit()):
        return None
    if text.startswith("0") and text != "0":
        return None
    return int(text)
