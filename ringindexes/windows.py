"""Windows: how many counters in a row have unlike slots."""

from ringindexes.gaps import gaps_from, has_outside, lowest_bit
from ringindexes.helpers import lesser
from ringindexes.slots import modulus_of


def window_of(scheme, n):
    """The greatest number of counters that have unlike slots wherever they begin; 0 if one is outside."""
    return window_at(scheme.slot, n, modulus_of(scheme, n))


def window_at(kind, n, modulus):
    """The window where the modulus is known: the least of the gaps of gaps.py, without making them all."""
    if kind == "mask":
        # The lowest bit that does not select the slot is that of the size; without it no slot comes again.
        return lesser(lowest_bit(n), modulus)
    if has_outside(kind, n, modulus):
        return 0
    if modulus <= n:
        return modulus
    left = modulus % n
    return n if left == 0 else left


def alike_of(scheme, n):
    """The least counter with the least gap, and this gap; None if a counter is outside."""
    modulus = modulus_of(scheme, n)
    if has_outside(scheme.slot, n, modulus):
        return None
    gaps = gaps_from(scheme.slot, n, modulus, 0)
    least = min([int(gap) for _, gap in gaps])
    return min([int(c) for c, gap in gaps if gap == least]), least
