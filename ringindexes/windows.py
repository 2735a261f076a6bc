"""Windows: how many counters in a row have unlike slots."""

from ringindexes.gaps import gaps_from, has_outside
from ringindexes.slots import modulus_of


def window_of(scheme, n):
    """The greatest number of counters that have unlike slots wherever they begin; 0 if one is outside."""
    alike = alike_of(scheme, n)
    if alike is None:
        return 0
    return alike[1]


def alike_of(scheme, n):
    """The least counter with the least gap, and this gap; None if a counter is outside."""
    modulus = modulus_of(scheme, n)
    if has_outside(scheme.slot, n, modulus):
        return None
    gaps = gaps_from(scheme.slot, n, modulus, 0)
    least = min([int(gap) for _, gap in gaps])
    return min([int(c) for c, gap in gaps if gap == least]), least
