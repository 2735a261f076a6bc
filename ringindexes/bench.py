"""Benches: two hands that go on step by step, in any order of their steps."""

from ringindexes.errors import NotRight
from ringindexes.handwork import Work
from ringindexes.stepping import check_hand, check_start, check_steps
from ringindexes.verdicts import verdict_of

HAND_WORDS = ("p", "t")


class Bench:
    """The two hands at a ring, up to the first wrong read."""

    def __init__(self, hands, n, *, at=0):
        verdict = verdict_of(hands.scheme, n)
        if not verdict:
            raise NotRight(verdict.cause)
        check_start(at)
        self._work = Work(hands, n, at)
        self._levels = (0, 0, 0)
        self._steps = 0
        self._broken = None

    def step(self, hand):
        """Do the next step of a hand; its name, or None behind a break."""
        check_hand(hand, HAND_WORDS)
        if self._broken is not None:
            return None
        name = self._work.single(hand)
        self._count(1)
        return name

    def play(self, *pieces):
        """Do the steps of pieces (times, hand), up to a break, which is returned."""
        check_steps(pieces, HAND_WORDS)
        for times, hand in pieces:
            self._play_piece(times, hand)
        return self._broken

    def _play_piece(self, times, hand):
        left = times
        while left > 0 and self._broken is None:
            made = self._work.go_on(hand, left)
            self._count(made)
            left = left - made

    def _count(self, made):
        """Count steps that were made, and keep where they have led."""
        self._steps = self._steps + made
        self._levels = self._work.three_levels()
        due = self._work.due()
        if due is not None:
            self._broken = (self._steps, due)

    @property
    def broken(self):
        return self._broken

    @property
    def levels(self):
        return self._levels

    @property
    def steps(self):
        return self._steps
