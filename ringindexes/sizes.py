"""All sizes, and all widths, at which a scheme is right."""

from ringindexes.errors import NoSize, TooLong
from ringindexes.forms import Form
from ringindexes.helpers import is_whole_from
from ringindexes.sizesets import set_of
from ringindexes.verdicts import verdict_of

GREATEST_TOLD_WIDTH = 10
GREATEST_TOLD_SIZE = 100
SETTLED_SIZE = 64
SETTLED_WIDTH = 10


def sizes_of(scheme):
    """The set of all sizes at which the scheme is right."""
    start, period = settled_sizes(scheme)
    return set_of([n for n in range(1, start + period) if verdict_of(scheme, n)], start, period)


def settled_sizes(scheme):
    """From which size on, and by which period, what is said of a scheme at sizes repeats itself."""
    if isinstance(scheme.wrap, Form):
        # From size 21 on the modulus, the room and the window are forms of slopes from 0 to 4 and bases
        # from -21 to 21, or missing; of any two the one that is greater at size 43 stays greater.
        return SETTLED_SIZE, 1
    if scheme.wrap > GREATEST_TOLD_WIDTH:
        raise TooLong("the sizes are told for widths to 10 alone")
    modulus = 1 << scheme.wrap
    # From here on sizes are above the modulus, and a limit with a slope is, too.
    start = modulus + SETTLED_SIZE
    if scheme.slot == "mask":
        # Only the bits of the size less 1 that a counter has, too, count for the slots.
        return start, modulus
    return start, 1


def widths_of(scheme, n):
    """The set of all widths with which the scheme is right at a size."""
    if not is_whole_from(n, 1, GREATEST_TOLD_SIZE):
        raise NoSize("the widths are told for sizes from 1 to 100 alone")
    # From this width on the modulus is above all limits and above two times the size; then only its
    # rest by the size goes on changing.
    start, period = SETTLED_WIDTH, doubling_period(n)
    widths = range(1, start + period)
    return set_of([w for w in widths if verdict_of(scheme.remade(wrap=w), n)], start, period)


def doubling_period(n):
    """The period in which the rests of great powers of two by n repeat themselves."""
    while n % 2 == 0:
        n = n // 2
    one = 1 % n
    period = 1
    power = 2 % n
    while power != one:
        power = 2 * power % n
        period = period + 1
    return period
