"""Sets of sizes: some early numbers, and behind them all with certain rests."""

from math import lcm

from ringindexes.errors import NoSet, TooLong
from ringindexes.helpers import is_whole, is_whole_from

GREATEST_START = 20000
GREATEST_PERIOD = 5000


class SizeSet:
    """The numbers of early, and all from start on whose rest by period is one of rests."""

    def __init__(self, early, start, period, rests):
        check_parts(early, start, period, rests)
        rest_marks = shortest(marks_of(rests, period))
        early_marks = marks_of(early, start)
        self._period = len(rest_marks)
        self._start = least_start(early_marks, rest_marks)
        self._early = [number for number in early if number < self._start]
        self._rests = [number for number in rests if number < self._period]
        # Marks tell whether a number is in a list without going through it.
        self._early_marks = early_marks
        self._rest_marks = rest_marks

    @property
    def early(self):
        return list(self._early)

    @property
    def start(self):
        return self._start

    @property
    def period(self):
        return self._period

    @property
    def rests(self):
        return list(self._rests)

    def __contains__(self, x):
        if not is_whole(x) or x < 1:
            return False
        if x < self._start:
            return self._early_marks[x]
        return self._rest_marks[x % self._period]

    def __and__(self, other):
        start, period = common_parts(self, other)
        return set_of([n for n in range(1, start + period) if n in self and n in other], start, period)

    def __or__(self, other):
        start, period = common_parts(self, other)
        return set_of([n for n in range(1, start + period) if n in self or n in other], start, period)

    def __le__(self, other):
        start, period = common_parts(self, other)
        return all([n in other for n in range(1, start + period) if n in self])

    def __eq__(self, other):
        return isinstance(other, SizeSet) and set_parts(self) == set_parts(other)

    def __bool__(self):
        return bool(len(self._early) + len(self._rests) > 0)

    def below(self, bound):
        """Yield the numbers below a bound, in ascending order."""
        for number in self._early:
            if number < bound:
                yield number
        if len(self._rests) > 0:
            lap = self._start - self._start % self._period
            while lap < bound:
                for number in self._rests:
                    if self._start <= lap + number < bound:
                        yield lap + number
                lap = lap + self._period

    def least(self):
        """The least number, or None."""
        for n in range(1, self._start + self._period):
            if n in self:
                return n
        return None

    @staticmethod
    def none():
        """The set without a number."""
        return SizeSet([], 1, 1, [])

    @staticmethod
    def full_set():
        """The set of all numbers."""
        return SizeSet([], 1, 1, [0])


def check_parts(early, start, period, rests):
    """NoSet for parts of which no set is made."""
    if not is_whole_from(start, 1, GREATEST_START):
        raise NoSet("a start is an integer from 1 to 20000")
    if not is_whole_from(period, 1, GREATEST_PERIOD):
        raise NoSet("a period is an integer from 1 to 5000")
    if not is_ascending(early, 1, start - 1) or not is_ascending(rests, 0, period - 1):
        raise NoSet("early numbers and rests are lists of integers in ascending order")


def is_ascending(thing, low, high):
    """Whether the object is a list of ascending integers from low to high, none twice."""
    if not isinstance(thing, list):
        return False
    least = low
    for number in thing:
        if not is_whole_from(number, least, high):
            return False
        least = number + 1
    return True


def marks_of(numbers, end):
    """For each number below end whether it is one of these."""
    marks = [False for _ in range(end)]
    for number in numbers:
        marks[number] = True
    return marks


def shortest(marks):
    """The shortest marks that are the given ones if they are repeated."""
    for period in range(1, len(marks)):
        if len(marks) % period == 0 and marks[:period] * (len(marks) // period) == marks:
            return marks[:period]
    return marks


def least_start(early_marks, rest_marks):
    """From where on the rests tell of each number whether it is in the set."""
    start = len(early_marks)
    while start > 1 and early_marks[start - 1] == rest_marks[(start - 1) % len(rest_marks)]:
        start = start - 1
    return start


def set_parts(sizes):
    """The parts of the shortest form, in order."""
    return sizes.early, sizes.start, sizes.period, sizes.rests


def common_parts(one, other):
    """A start and a period by which both sets can be told; NoSet, then TooLong, if there are none."""
    if not isinstance(other, SizeSet):
        raise NoSet("a set of sizes stands beside sets of sizes alone")
    period = lcm(one.period, other.period)
    if period > GREATEST_PERIOD:
        raise TooLong("the least common multiple of both periods is above 5000")
    start = one.start if one.start > other.start else other.start
    return start, period


def set_of(numbers, start, period):
    """The set that has these numbers, all below start + period, and goes on with the period."""
    early = [n for n in numbers if n < start]
    rests = sorted([int(n % period) for n in numbers if n >= start])
    return SizeSet(early, start, period, rests)
