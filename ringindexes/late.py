"""Late takers: logs that write over, and what their readers believe."""

from ringindexes.errors import NoLag, NotDecided, Outside, TooLong
from ringindexes.gaps import has_outside
from ringindexes.helpers import is_whole_from
from ringindexes.sizesets import SizeSet
from ringindexes.slots import modulus_of

GREATEST_LAG = 10 ** 40
GREATEST_TOLD_MODULUS = 2000


class Log:
    """A ring that writes over; its values are 1, 2, 3 and so on."""

    def __init__(self, scheme, n):
        self.modulus = log_modulus(scheme, n)
        self.size = n
        self._put_count = 0

    def __iadd__(self, other):
        check_lag(other, GREATEST_LAG)
        self._put_count = self._put_count + other
        return self

    @property
    def put_count(self):
        return self._put_count

    @property
    def held(self):
        if self._put_count < self.size:
            return self._put_count
        return self.size

    def __getitem__(self, at):
        if not is_whole_from(at, 0, self.size - 1):
            raise Outside("there is no such slot")
        if self._put_count <= at:
            return 0
        # Laps end at the last slot, so the value v lies in the slot v - 1 modulo the size.
        return self._put_count - (self._put_count - 1 - at) % self.size

    def __iter__(self):
        raise TypeError("slots are read one by one, by their numbers")


class Reader:
    """A taker of a log with a counter of its own."""

    def __init__(self, log, *, back=0):
        check_lag(back, log.put_count)
        self._log = log
        # T is this number modulo M: the values put until the start, less those that it is behind,
        # and all that were read or told as lost.
        self._passed = log.put_count - back

    def __call__(self):
        return self._read()

    def _read(self):
        """Read once: (lost, value), or None if nothing seems to be there."""
        belief = Belief(self.lag, self._log.modulus, self._log.size)
        if belief.looks_empty:
            return None
        read = self._passed + belief.lost
        self._passed = read + 1
        return belief.lost, self._log[read % self._log.size]

    @property
    def believed(self):
        return self.lag % self._log.modulus

    @property
    def lag(self):
        return self._log.put_count - self._passed

    def rest(self, limit):
        """Read until nothing seems to be there or so many values were read; yield each as it is read."""
        many = 0
        while many < limit:
            found = self._read()
            if found is None:
                return
            yield found
            many = many + 1


class Belief:
    """What a taker with a true lag believes, in a log with this modulus and size."""

    def __init__(self, lag, modulus, n):
        self._lag = lag
        self._modulus = modulus
        self._n = n

    @property
    def believed(self):
        return self._lag % self._modulus

    @property
    def lost(self):
        if self.believed < self._n:
            return 0
        return self.believed - self._n

    @property
    def looks_empty(self):
        return self.believed == 0

    @property
    def number_right(self):
        return self.believed == self._lag

    @property
    def place_right(self):
        # Behind a lag of M or more n values still stand, so the oldest one is read exactly if it
        # believes that there are n or more.
        return self.number_right or self.believed >= self._n

    def __bool__(self):
        return bool(self.number_right and self.place_right)


def log_modulus(scheme, n):
    """The modulus of a log; the errors of a log if there is none."""
    modulus = modulus_of(scheme, n)
    if scheme.when != "over":
        raise NotDecided("a log writes over")
    if modulus % n != 0 or has_outside(scheme.slot, n, modulus):
        raise NotDecided("the counters of a log end at the last slot")
    return modulus


def check_lag(thing, most):
    """NoLag for any object that is no number of values from 0 to this one."""
    if not is_whole_from(thing, 0, most):
        raise NoLag("a number of values is an integer from 0 on")


def belief_of(scheme, n, lag):
    """What a taker with this true lag believes."""
    modulus = log_modulus(scheme, n)
    check_lag(lag, GREATEST_LAG)
    return Belief(lag, modulus, n)


def right_lags(scheme, n):
    """The set of the lags at which the belief is right."""
    modulus = short_modulus(scheme, n)
    return SizeSet(list(range(1, modulus)), modulus, 1, [])


def place_lags(scheme, n):
    """The set of the lags at which the place is right."""
    modulus = short_modulus(scheme, n)
    return SizeSet(list(range(1, modulus)), modulus, modulus, list(range(n, modulus)))


def short_modulus(scheme, n):
    """The modulus of a log whose lags are told; TooLong for a greater one."""
    modulus = log_modulus(scheme, n)
    if modulus > GREATEST_TOLD_MODULUS:
        raise TooLong("the lags are told for moduli to 2000 alone")
    return modulus
