"""Blocks: several values that are put or taken at once, copied in at most two parts."""

from ringindexes.errors import NotDecided, NotRight, Outside, TooLong
from ringindexes.gaps import lowest_bit
from ringindexes.helpers import check_size, is_whole_from, lesser
from ringindexes.rooms import room_of
from ringindexes.sizes import right_sizes, settled_size
from ringindexes.sizesets import set_of
from ringindexes.slots import modulus_of, slot_at
from ringindexes.verdicts import verdict_of

BREAKING_DEEDS = (("put", 2), ("take", 1), ("take", 1))


def block_parts(scheme, n, at, many):
    """The parts (first slot, length) into which a block from a counter on is cut."""
    modulus = modulus_of(scheme, n)
    first = slot_at(scheme.slot, n, at % modulus)
    if first is None:
        raise Outside("the slot of this counter is outside")
    if many > n:
        raise TooLong("a block has at most as many values as there are slots")
    return parts_from(n, first, many)


def parts_from(n, first, many):
    """The parts of a block from a slot on."""
    if many == 0:
        return []
    length = lesser(many, n - first)
    if length == many:
        return [(first, length)]
    return [(first, length), (0, many - length)]


class BlockRing:
    """A ring into and from which blocks are copied."""

    def __init__(self, scheme, n):
        verdict = right_verdict(scheme, n)
        self._n = n
        self._slot = scheme.slot
        self._modulus = modulus_of(scheme, n)
        self._room = verdict.room
        # Only slots into which something was laid are kept, for there may be very many.
        self._laid = {}
        self._put_at = 0
        self._take_at = 0
        self._held = 0

    @staticmethod
    def started(scheme, n, at):
        """An empty ring whose counters both are at a place, modulo M."""
        ring = BlockRing(scheme, n)
        ring._start_at(at)
        return ring

    def _start_at(self, at):
        """Set both counters of an empty ring."""
        self._put_at = at % self._modulus
        self._take_at = self._put_at

    def put_block(self, *values):
        """Put all values; False, and nothing is done, if there is no room for all of them."""
        many = len(values)
        if self._held + many > self._room:
            return False
        slots = self._block_slots(self._put_at, many)
        for slot, value in zip(slots, values):
            self._laid[slot] = value
        self._put_at = (self._put_at + many) % self._modulus
        self._held = self._held + many
        return True

    def take_block(self, many):
        """Take so many values as a tuple; None, and nothing is done, if fewer are held."""
        if many > self._held:
            return None
        taken = tuple([self._laid.get(slot, None) for slot in self._block_slots(self._take_at, many)])
        self._take_at = (self._take_at + many) % self._modulus
        self._held = self._held - many
        return taken

    def _block_slots(self, at, many):
        """The slots of a block from a counter on, in the order in which they are copied."""
        parts = parts_from(self._n, slot_at(self._slot, self._n, at), many)
        return [first + k for first, length in parts for k in range(length)]

    @property
    def held(self):
        return self._held

    @property
    def both_at(self):
        return self._put_at, self._take_at

    def __getitem__(self, at):
        if not is_whole_from(at, 0, self._n - 1):
            raise Outside("there is no such slot")
        return self._laid.get(at, None)

    def __iter__(self):
        raise TypeError("slots are read one by one, by their numbers")

    def __bool__(self):
        return bool(self._held > 0)


def check_refuses(scheme):
    """NotDecided for a scheme that does not refuse."""
    if scheme.when != "refuse":
        raise NotDecided("blocks are decided only for schemes that refuse")


def right_verdict(scheme, n):
    """The verdict on a scheme that refuses and is right; the errors of a block ring for any other."""
    check_size(n)
    check_refuses(scheme)
    verdict = verdict_of(scheme, n)
    if not verdict:
        raise NotRight(verdict.cause)
    return verdict


def blocks_right(scheme, n):
    """Whether all blocks come out in the order in which they were put."""
    check_size(n)
    check_refuses(scheme)
    return bool(verdict_of(scheme, n)) and right_for_blocks(scheme, n)


def right_for_blocks(scheme, n):
    """Whether all blocks come out in order where a scheme that refuses is right."""
    # Behind the last slot a block goes on at the first one, and its counters do so if laps end there.
    return modulus_of(scheme, n) % n == 0 or room_of(scheme, n) == 1


def block_break(scheme, n):
    """Where a block ring starts and by which deeds it takes a wrong value; None if none does."""
    right_verdict(scheme, n)
    if blocks_right(scheme, n):
        return None
    modulus = modulus_of(scheme, n)
    # Each lap of a mask ends below the lowest bit that does not select a slot.
    lap = lowest_bit(n)
    if scheme.slot == "mask" and lap < modulus:
        return lap - 1, BREAKING_DEEDS
    return modulus - 1, BREAKING_DEEDS


def block_sizes(scheme):
    """The set of all sizes at which all blocks come out in order."""
    check_refuses(scheme)
    # Above the modulus only blocks of one value are right, or the modulus is a multiple of all sizes.
    start = settled_size(scheme)
    return set_of([n for n in right_sizes(scheme, start + 1) if right_for_blocks(scheme, n)], start, 1)
