"""Which slot a counter of a scheme selects, and how soon another counter selects it again."""

from ringindexes.errors import NoCounter, NoRing
from ringindexes.forms import Form, form_at
from ringindexes.gaps import gaps_from
from ringindexes.helpers import check_size, is_whole_from


def modulus_of(scheme, n):
    """After how many steps the counters wrap at a size."""
    check_size(n)
    modulus = wrap_at(scheme.wrap, n)
    if modulus < 1:
        raise NoRing("the modulus is below 1 at this size")
    return modulus


def slot_of(scheme, n, c):
    """The slot of a counter; None if it is outside."""
    check_counter(c, modulus_of(scheme, n))
    return slot_at(scheme.slot, n, c)


def gap_of(scheme, n, c):
    """How many steps behind a counter the next one with its slot is; None if it is outside."""
    modulus = modulus_of(scheme, n)
    check_counter(c, modulus)
    if slot_at(scheme.slot, n, c) is None:
        return None
    # A counter is the first one at or behind itself of its own class, and of no other.
    return min([int(gap) for steps, gap in gaps_from(scheme.slot, n, modulus, c) if steps == 0])


def wrap_at(wrap, n):
    """The number that a wrap is at a size."""
    if isinstance(wrap, Form):
        return form_at(wrap, n)
    return 1 << wrap


def check_counter(c, modulus):
    """NoCounter for any object that is no counter of this modulus."""
    if not is_whole_from(c, 0, modulus - 1):
        raise NoCounter("a counter is an integer from 0 to the modulus - 1")


def slot_at(kind, n, c):
    """The slot of a counter that is known to be one; None if it is outside."""
    if kind == "rest":
        return c % n
    if kind == "mask":
        return c & (n - 1)
    if c < n:
        return c
    if c < 2 * n:
        return c - n
    return None
