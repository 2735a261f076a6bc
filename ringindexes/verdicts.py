"""Verdicts: whether a scheme is right at a size, and if not, a run that shows it."""

from ringindexes.helpers import check_size
from ringindexes.rooms import room_of
from ringindexes.runs import Run
from ringindexes.slots import modulus_of, wrap_at
from ringindexes.windows import alike_of, window_of


class Verdict:
    """What is said of a scheme at a size."""

    def __init__(self, scheme, n):
        check_size(n)
        self._room = None
        self._window = None
        self._cause = "nothing"
        self._pieces = None
        if wrap_at(scheme.wrap, n) >= 1:
            self._decide(scheme, n)

    def _decide(self, scheme, n):
        """Tell the cause where there is a ring."""
        self._room = room_of(scheme, n)
        self._window = window_of(scheme, n)
        self._cause = cause_of(scheme.empty, modulus_of(scheme, n), self._room, self._window)
        self._pieces = breaking_pieces(scheme, n, self._cause)

    def __bool__(self):
        return bool(self._cause == "right")

    @property
    def cause(self):
        return self._cause

    @property
    def room(self):
        return self._room

    @property
    def window(self):
        return self._window

    @property
    def run(self):
        if self._pieces is None:
            return None
        return Run(*self._pieces)


def verdict_of(scheme, n):
    """The verdict on a scheme at a size."""
    return Verdict(scheme, n)


def cause_of(empty, modulus, room, window):
    """The first cause that applies where there is a ring."""
    if room == 0:
        return "shut"
    if window == 0:
        return "outside"
    if empty == "same" and (room is None or room >= modulus):
        return "empty"
    if room is None or room > window:
        return "slot"
    return "right"


def breaking_pieces(scheme, n, cause):
    """The pieces of a run that breaks a new ring by its last deed; None if it is right."""
    if cause == "right":
        return None
    if cause == "shut":
        return ((1, "put"),)
    if cause == "outside":
        return (2 * n, "pair"), (1, "put")
    if cause == "empty":
        return (modulus_of(scheme, n), "put"), (1, "take")
    c, gap = alike_of(scheme, n)
    if c == 0:
        return (gap + 1, "put"), (1, "take")
    return (c, "pair"), (gap + 1, "put"), (1, "take")
