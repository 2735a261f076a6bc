"""The room of a ring: at how many held things it is full."""

from ringindexes.rings import limit_at
from ringindexes.slots import modulus_of


def room_of(scheme, n):
    """At how many things a ring into which one only puts is FULL; None if it never refuses."""
    modulus = modulus_of(scheme, n)
    if scheme.when == "over":
        return None
    return room_at(scheme.full, modulus, n)


def room_at(full, modulus, n):
    """The room of a ring that does not say over, where the modulus is known."""
    kind = full[0]
    if kind == "next":
        return modulus - 1
    if kind == "note":
        return modulus
    return limit_room(full, modulus, limit_at(full, n))


def limit_room(full, modulus, limit):
    """The room of a full with a limit."""
    if limit < 0:
        # Every number is at least such a limit, and none is equal to it.
        return 0 if full[1] == ">=" else None
    if full[0] == "diff" and limit >= modulus:
        return None
    return limit
