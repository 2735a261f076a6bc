"""Counters that wrap."""

from ringindexes.errors import NoCounter
from ringindexes.helpers import is_whole, is_whole_from

GREATEST_MODULUS = 10 ** 40


class Counter:
    """A counter that goes from 0 to modulus - 1, and on from 0."""

    def __init__(self, modulus, value=0):
        if not is_whole_from(modulus, 1, GREATEST_MODULUS):
            raise NoCounter("a modulus is an integer from 1 to 10 ** 40")
        check_whole(value)
        self.modulus = modulus
        self._value = value % modulus

    @property
    def value(self):
        return self._value

    @value.setter
    def value(self, value):
        self.change(value)

    def change(self, value):
        """Assign the value."""
        if not is_whole_from(value, 0, self.modulus - 1):
            raise NoCounter("a counter's value is an integer from 0 to modulus - 1")
        self._value = value

    def __add__(self, other):
        check_whole(other)
        return Counter(self.modulus, self._value + other)

    def __radd__(self, other):
        return self + other

    def __sub__(self, other):
        if isinstance(other, Counter) and other.modulus == self.modulus:
            return (self._value - other.value) % self.modulus
        check_whole(other)
        return Counter(self.modulus, self._value - other)

    def __iadd__(self, other):
        check_whole(other)
        self._value = (self._value + other) % self.modulus
        return self

    def __isub__(self, other):
        check_whole(other)
        self._value = (self._value - other) % self.modulus
        return self

    def __floordiv__(self, other):
        check_divisor(other)
        return self._value // other

    def __mod__(self, other):
        check_divisor(other)
        return self._value % other

    def __and__(self, other):
        if not is_whole(other) or other < 0:
            raise NoCounter("a mask is an integer from 0 on")
        return self._value & other

    def __eq__(self, other):
        return isinstance(other, Counter) and self.modulus == other.modulus and self._value == other.value


def check_whole(thing):
    """NoCounter for any object that is no integer."""
    if not is_whole(thing):
        raise NoCounter("a value, or a number of steps, is an integer")


def check_divisor(thing):
    """NoCounter for any object by which a counter is not divided."""
    if not is_whole(thing) or thing < 1:
        raise NoCounter("a counter is divided by an integer from 1 on")
