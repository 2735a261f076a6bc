"""Runs of deeds: pieces that are done many times."""

from ringindexes.errors import NoRun
from ringindexes.helpers import is_whole_from, is_word_of, read_number

MOST_PIECES = 100
MOST_COPIES = 100
MOST_TIMES = 10 ** 40
WORDS = ("put", "take", "pair")


class Run:
    """Pieces (times, word), which are done one after the other."""

    def __init__(self, *pieces):
        check_pieces(pieces)
        self._pieces = pieces

    @property
    def pieces(self):
        return list(self._pieces)

    def all_deeds(self):
        """The number of deeds; a pair is two."""
        return sum([deeds_of(times, word) for times, word in self._pieces])

    def __add__(self, other):
        joined = self._pieces + pieces_of(other)
        return Run(*joined)

    def __iadd__(self, other):
        joined = self._pieces + pieces_of(other)
        check_pieces(joined)
        self._pieces = joined
        return self

    def __mul__(self, other):
        if not is_whole_from(other, 0, MOST_COPIES):
            raise NoRun(None)
        copies = self._pieces * other
        return Run(*copies)

    def __rmul__(self, other):
        return self * other

    def __eq__(self, other):
        return isinstance(other, Run) and pieces_of(self) == pieces_of(other)

    def __len__(self):
        return len(self._pieces)

    def __getitem__(self, at):
        if not is_whole_from(at, 0, len(self._pieces) - 1):
            raise NoRun(None)
        return self._pieces[at]

    def __iter__(self):
        raise TypeError("the pieces of a run are iterated over by its property pieces")

    @staticmethod
    def read(text):
        """The run with exactly this text."""
        if not isinstance(text, str):
            raise NoRun(None)
        if text == "-":
            return Run()
        pieces = [read_piece(words) for words in text.split("; ")]
        if None in pieces:
            raise NoRun(None)
        return Run(*pieces)


def check_pieces(pieces):
    """NoRun for too many pieces, then for the first object that is no piece."""
    if len(pieces) > MOST_PIECES:
        raise NoRun(None)
    for at, piece in enumerate(pieces):
        if not is_piece(piece):
            raise NoRun(at)


def is_piece(thing):
    """Whether the object is a piece of a run."""
    if not isinstance(thing, tuple) or len(thing) != 2:
        return False
    return is_whole_from(thing[0], 0, MOST_TIMES) and is_word_of(thing[1], WORDS)


def pieces_of(thing):
    """The tuple of a run's pieces; NoRun for any other object."""
    if not isinstance(thing, Run):
        raise NoRun(None)
    return tuple(thing.pieces)


def deeds_of(times, word):
    """The number of deeds of a piece."""
    if word == "pair":
        return 2 * times
    return times


def show_run(run):
    """The text of a run."""
    if len(run) == 0:
        return "-"
    return "; ".join([f"{times} {word}" for times, word in run.pieces])


def read_piece(text):
    """The piece with exactly this text, or None."""
    number, _, word = text.partition(" ")
    times = read_number(number, len(str(MOST_TIMES)))
    piece = (times, word)
    if not is_piece(piece):
        return None
    return piece
