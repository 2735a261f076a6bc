"""When slots come again, told for all counters at once.

Counters with the same gap form classes, of which there are few at any modulus; of each class the
first counter at or behind a given one is enough to decide where something goes wrong first.
"""


def has_outside(kind, n, modulus):
    """Whether a counter is outside."""
    return kind == "off" and modulus > 2 * n


def gaps_from(kind, n, modulus, c):
    """Pairs (steps, gap), one for each class: how many steps it is from c to its first counter."""
    if kind == "mask":
        return mask_gaps(n, modulus, c)
    spans = rest_spans(n, modulus)
    if kind == "off":
        spans = off_spans(n, modulus)
    return [(steps_to_span(first, end, modulus, c), gap) for first, end, gap in spans]


def rest_spans(n, modulus):
    """Counters in a row with one gap, as (first, end, gap), where slots are rests."""
    if modulus <= n:
        return [(0, modulus, modulus)]
    left = modulus % n
    if left == 0:
        return [(0, modulus, n)]
    return [(0, modulus - n, n), (modulus - n, modulus - left, n + left), (modulus - left, modulus, left)]


def off_spans(n, modulus):
    """The same for off; counters that are outside have no gap."""
    if modulus <= n:
        return [(0, modulus, modulus)]
    if modulus < 2 * n:
        return [(0, modulus - n, n), (modulus - n, n, modulus), (n, modulus, modulus - n)]
    return [(0, n, n), (n, 2 * n, modulus - n)]


def steps_to_span(first, end, modulus, c):
    """How many steps it is from c to the first counter from first to end - 1."""
    if first <= c < end:
        return 0
    return (first - c) % modulus


def mask_gaps(n, modulus, c):
    """The pairs of gaps_from for mask.

    The next counter with the same slot has the next pattern of the free bits, those that do not
    select the slot. So a class are the counters whose lowest free bit that is not set is the same.
    """
    free = modulus - 1 - mask_of(n, modulus)
    gaps = []
    lower = 0
    bit = 1
    while bit < modulus:
        if free & bit:
            gaps.append((steps_to_bits(modulus, lower | bit, lower, c), bit - lower))
            lower = lower | bit
        bit = 2 * bit
    gaps.append((steps_to_bits(modulus, free, free, c), modulus - free))
    return gaps


def lowest_bit(n):
    """The greatest power of two that divides n."""
    return n & -n


def mask_of(n, modulus):
    """The bits of counters that select the slot."""
    return (n - 1) & (modulus - 1)


def steps_to_bits(modulus, mask, bits, c):
    """How many steps it is from c to the first counter with these bits where the mask is set."""
    unlike = (c ^ bits) & mask
    if unlike == 0:
        return 0
    highest = 1 << (unlike.bit_length() - 1)
    low = 2 * highest - 1
    if c & highest:
        # No counter with the same bits above will do any more: the free ones among them go on by one.
        found = (((c | mask | low) + 1) & (modulus - 1 - mask)) | bits
    else:
        found = ((c | low) - low) | (bits & low)
    return (found - c) % modulus


def steps_back(kind, n, modulus, c, slot):
    """How many steps back from c the nearest counter with a slot is, c itself included."""
    if kind == "mask":
        # Seen from the other end, counters with their bits turned over go up.
        mask = mask_of(n, modulus)
        return steps_to_bits(modulus, mask, mask - slot, modulus - 1 - c)
    # Slots of counters that are not outside are rests for off, too.
    if c >= slot:
        return (c - slot) % n
    return c + 1 + (modulus - 1 - slot) % n
