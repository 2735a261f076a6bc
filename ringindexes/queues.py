"""Queues, and rings that are watched beside one."""

from collections import deque

from ringindexes.errors import Outside
from ringindexes.rings import Ring


class Queue:
    """Values in the order in which they were put."""

    def __init__(self):
        self._values = deque()

    def put(self, value):
        """Put a value behind the others."""
        self._values.append(value)

    def take(self):
        """Take away the oldest value and return it; None if there is none."""
        if len(self._values) == 0:
            return None
        return self._values.popleft()

    def oldest(self):
        """The oldest value, which stays; None if there is none."""
        if len(self._values) == 0:
            return None
        return self._values[0]

    def __len__(self):
        return len(self._values)

    def __bool__(self):
        return bool(len(self._values) > 0)

    def __contains__(self, x):
        return x in self._values


class Watch:
    """A ring with a queue beside it, until the ring does what no queue does."""

    def __init__(self, scheme, n):
        self._ring = Ring(scheme, n)
        self._queue = Queue()
        self._when = scheme.when
        self._last = 0
        self._deeds = 0
        self._broken = None

    def put(self):
        """Put the next value into both; what the ring returns."""
        if self._broken is not None:
            return None
        self._deeds = self._deeds + 1
        full = self._ring.is_full()
        if full and self._when != "over" and len(self._queue) == 0:
            self._broken = ("shut", self._deeds, None, None)
        try:
            answer = self._ring.put(self._last + 1)
        except Outside:
            self._note_outside()
            return None
        if full and self._when == "drop":
            self._queue.take()
        if answer:
            self._last = self._last + 1
            self._queue.put(self._last)
        return answer

    def take(self):
        """Take from both; what the ring returns."""
        if self._broken is not None:
            return None
        self._deeds = self._deeds + 1
        try:
            told = self._ring.take()
        except Outside:
            self._note_outside()
            return None
        if told is not None:
            self._compare(told, self._queue.take())
        elif len(self._queue) > 0:
            self._broken = ("empty", self._deeds, self._queue.oldest(), None)
        return told

    def _compare(self, told, wanted):
        if told != wanted:
            self._broken = ("wrong", self._deeds, wanted, told)

    def _note_outside(self):
        self._broken = ("outside", self._deeds, None, None)

    @property
    def broken(self):
        return self._broken

    @property
    def deeds(self):
        return self._deeds

    @property
    def held(self):
        return len(self._queue)
