"""All sizes, and all widths, at which a scheme is right."""

from ringindexes.errors import NoSize, TooLong
from ringindexes.forms import Form
from ringindexes.helpers import is_whole_from
from ringindexes.rooms import room_at
from ringindexes.sizesets import set_of
from ringindexes.slots import wrap_at
from ringindexes.verdicts import cause_of
from ringindexes.windows import window_at

GREATEST_TOLD_WIDTH = 10
GREATEST_TOLD_SIZE = 100
SETTLED_WIDTH = 10


def sizes_of(scheme):
    """The set of all sizes at which the scheme is right."""
    start, period = settled_sizes(scheme)
    return set_of(right_sizes(scheme, start + period), start, period)


def right_sizes(scheme, end):
    """The sizes below this one at which the scheme is right."""
    if scheme.when == "over":
        return []
    # The parts are read once, not at each size, for very many of these sets may be asked for.
    wrap, slot, empty, full = scheme.wrap, scheme.slot, scheme.empty, scheme.full
    return [n for n in range(1, end) if right_at(wrap_at(wrap, n), slot, empty, full, n)]


def right_at(modulus, slot, empty, full, n):
    """Whether a scheme with these parts, which does not say over, is right at a size."""
    if modulus < 1:
        return False
    return cause_of(empty, modulus, room_at(full, modulus, n), window_at(slot, n, modulus)) == "right"


def settled_sizes(scheme):
    """From which size on, and by which period, what is said of a scheme at sizes repeats itself."""
    start = settled_size(scheme)
    if scheme.slot == "mask" and has_one_room(scheme.full):
        # The window is the lowest bit of the size, but at most the modulus; where it holds a room,
        # it does so at all multiples of the least power of two that does.
        modulus = wrap_at(scheme.wrap, 1)
        return 1, power_above(room_at(scheme.full, modulus, 1), modulus)
    return start, 1


def settled_size(scheme):
    """From which size on what is said of a scheme stays, if no slot is selected by a mask."""
    if not isinstance(scheme.wrap, Form) and scheme.wrap > GREATEST_TOLD_WIDTH:
        raise TooLong("the sizes are told for widths to 10 alone")
    # Above the base of the wrap (a width is a form without a slope) the modulus, the room and the window
    # are forms, or missing. Each of their bases is one of the wrap, of the limit, 0, or 1 less than such;
    # above both bases together, and 2 more for what is compared with 1, no two of them cross.
    return base_of(scheme.wrap) + limit_base(scheme.full) + 3


def base_of(wrap):
    """How far from 0 the base of a wrap is."""
    if isinstance(wrap, Form):
        return abs(wrap.base)
    return wrap_at(wrap, 1)


def limit_base(full):
    """How far from 0 the base of the limit is; 0 for a full without a limit."""
    if len(full) == 1:
        return 0
    return abs(full[2].base)


def has_one_room(full):
    """Whether the room beside a width is the same at all sizes."""
    return len(full) == 1 or full[2].slope == 0


def power_above(room, modulus):
    """The least power of two that is not below a room; 1 if the room is more than the modulus, or none."""
    if room is None or room > modulus:
        return 1
    power = 1
    while power < room:
        power = 2 * power
    return power


def widths_of(scheme, n):
    """The set of all widths with which the scheme is right at a size."""
    if not is_whole_from(n, 1, GREATEST_TOLD_SIZE):
        raise NoSize("the widths are told for sizes from 1 to 100 alone")
    # From this width on the modulus is above all limits and above two times the size; then only its
    # rest by the size goes on changing.
    start, period = SETTLED_WIDTH, doubling_period(n)
    return set_of(right_widths(scheme, n, start + period), start, period)


def right_widths(scheme, n, end):
    """The widths below this one with which the scheme is right at a size."""
    if scheme.when == "over":
        return []
    slot, empty, full = scheme.slot, scheme.empty, scheme.full
    return [w for w in range(1, end) if right_at(wrap_at(w, n), slot, empty, full, n)]


def doubling_period(n):
    """The period in which the rests of great powers of two by n repeat themselves."""
    while n % 2 == 0:
        n = n // 2
    one = 1 % n
    period = 1
    power = 2 % n
    while power != one:
        power = 2 * power % n
        period = period + 1
    return period
