"""Rings: slots, two counters over them, a number and a note."""

from ringindexes.errors import NoSize, Outside
from ringindexes.forms import form_at
from ringindexes.helpers import is_whole_from
from ringindexes.slots import modulus_of, slot_at

MOST_SLOTS = 10 ** 4


class Slots:
    """Slots that are numbered from 0, each with None at first."""

    def __init__(self, n):
        if not is_whole_from(n, 1, MOST_SLOTS):
            raise NoSize("a ring with slots has 1 to 10 ** 4 of them")
        self._laid = [None for _ in range(n)]

    def __getitem__(self, at):
        self._check_slot(at)
        return self._laid[at]

    def __setitem__(self, at, worth):
        self._check_slot(at)
        self._laid[at] = worth

    def __len__(self):
        return len(self._laid)

    def __iter__(self):
        raise TypeError("slots are read one by one, by their numbers")

    def _check_slot(self, at):
        if not is_whole_from(at, 0, len(self._laid) - 1):
            raise Outside("there is no such slot")


class Tests:
    """How EMPTY and FULL are recognised by counters, a number and a note."""

    def is_empty(self):
        """Whether it is EMPTY."""
        if self._empty == "count":
            return self._number == 0
        if self._empty == "note":
            return self._put_at == self._take_at and not self._note
        return self._put_at == self._take_at

    def is_full(self):
        """Whether it is FULL."""
        kind = self._full[0]
        if kind == "next":
            return (self._put_at + 1) % self._modulus == self._take_at
        if kind == "note":
            return self._put_at == self._take_at and self._note
        measured = self._number
        if kind == "diff":
            measured = (self._put_at - self._take_at) % self._modulus
        if self._full[1] == "=":
            return measured == self._limit
        return measured >= self._limit


class Ring(Slots, Tests):
    """The ring of a scheme at a size."""

    def __init__(self, scheme, n):
        super().__init__(n)
        self._modulus = modulus_of(scheme, n)
        self._slot = scheme.slot
        self._empty = scheme.empty
        self._full = scheme.full
        self._limit = limit_at(scheme.full, n)
        self._when = scheme.when
        self._put_at = 0
        self._take_at = 0
        self._number = 0
        self._note = False

    def put(self, value):
        """Put a value; False if the ring is FULL and refuses."""
        full = self.is_full()
        if full and self._when == "refuse":
            return False
        slot = self._inside(self._put_at)
        if full and self._when == "drop":
            self._leave_oldest()
        self._laid[slot] = value
        self._put_at = (self._put_at + 1) % self._modulus
        self._number = self._number + 1
        self._note = True
        return True

    def put_all(self, *values):
        """Put one value after the other; the list of the answers."""
        answers = []
        for value in values:
            answers.append(self.put(value))
        return answers

    def take(self):
        """Take what lies in the slot of T; None if the ring is EMPTY."""
        if self.is_empty():
            return None
        taken = self._laid[self._inside(self._take_at)]
        self._leave_oldest()
        self._note = False
        return taken

    def put_at(self):
        """The value of the counter P."""
        return self._put_at

    def take_at(self):
        """The value of the counter T."""
        return self._take_at

    def number(self):
        """The number."""
        return self._number

    def has_note(self):
        """The note."""
        return self._note

    def __bool__(self):
        return not self.is_empty()

    def _inside(self, c):
        slot = slot_at(self._slot, len(self._laid), c)
        if slot is None:
            raise Outside("the slot of this counter is outside")
        return slot

    def _leave_oldest(self):
        self._take_at = (self._take_at + 1) % self._modulus
        self._number = self._number - 1


def limit_at(full, n):
    """The limit's value at a size; None for a full without a limit."""
    if len(full) == 1:
        return None
    return form_at(full[2], n)
