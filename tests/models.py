"""Plain models of slots, rings and watches, step by step, and the small schemes to hold them beside."""

from functools import cache
from itertools import product

from ringindexes.forms import Form
from ringindexes.schemes import Scheme

OUTSIDE = "outside"
N = Form(1, 0)


def scheme_of(wrap, slot="rest", empty="same", full=("next",), when="refuse"):
    return Scheme(wrap=wrap, slot=slot, empty=empty, full=full, when=when)


def plain_modulus(wrap, n):
    if isinstance(wrap, Form):
        return wrap.slope * n + wrap.base
    return 2 ** wrap


BITS = tuple(2 ** k for k in range(8))


@cache
def plain_slot(slot, n, c):
    """The slot of a small counter, None if it is outside."""
    if slot == "off":
        table = [*range(n), *range(n)]
        return table[c] if c < len(table) else None
    if slot == "rest":
        while c >= n:
            c -= n
        return c
    return sum(bit for bit in BITS if c // bit % 2 == 1 and (n - 1) // bit % 2 == 1)


def plain_gap(slots, c):
    """The gap of a counter, counted step by step; slots has those of all counters."""
    if slots[c] is None:
        return None
    modulus = len(slots)
    g = 1
    while slots[(c + g) % modulus] != slots[c]:
        g += 1
    return g


class PlainRing:
    """A ring as point 14 tells it."""

    def __init__(self, scheme, n):
        self.scheme, self.n = scheme, n
        self.modulus = plain_modulus(scheme.wrap, n)
        self.cells = [None] * n
        self.p = self.t = self.number = 0
        self.note = False

    def state(self):
        return [self.p, self.t, self.number, self.note, self.empty(), self.full(), list(self.cells)]

    def empty(self):
        if self.scheme.empty == "same":
            return self.p == self.t
        if self.scheme.empty == "count":
            return self.number == 0
        return self.p == self.t and not self.note

    def full(self):
        kind, *rest = self.scheme.full
        if kind == "next":
            return (self.p + 1) % self.modulus == self.t
        if kind == "note":
            return self.p == self.t and self.note
        measured = (self.p - self.t) % self.modulus if kind == "diff" else self.number
        limit = rest[1].slope * self.n + rest[1].base
        return measured == limit if rest[0] == "=" else measured >= limit

    def done(self, deed, value):
        return self.put(value) if deed == "p" else self.take()

    def put(self, value):
        full = self.full()
        if full and self.scheme.when == "refuse":
            return False
        slot = plain_slot(self.scheme.slot, self.n, self.p)
        if slot is None:
            return OUTSIDE
        if full and self.scheme.when == "drop":
            self.t = (self.t + 1) % self.modulus
            self.number -= 1
        self.cells[slot] = value
        self.p = (self.p + 1) % self.modulus
        self.number += 1
        self.note = True
        return True

    def take(self):
        if self.empty():
            return None
        slot = plain_slot(self.scheme.slot, self.n, self.t)
        if slot is None:
            return OUTSIDE
        value = self.cells[slot]
        self.t = (self.t + 1) % self.modulus
        self.number -= 1
        self.note = False
        return value


class PlainWatch:
    """A watch as point 16 tells it."""

    def __init__(self, scheme, n):
        self.ring = PlainRing(scheme, n)
        self.queue = []
        self.laid = self.deeds = 0
        self.broken = None

    def state(self):
        return [self.broken, self.deeds, len(self.queue)]

    def stop(self, kind, wanted=None, told=None):
        self.broken = (kind, self.deeds, wanted, told)

    def put(self):
        if self.broken:
            return None
        self.deeds += 1
        full, when = self.ring.full(), self.ring.scheme.when
        if full and when in ("refuse", "drop") and not self.queue:
            self.stop("shut")
        answer = self.ring.put(self.laid + 1)
        if answer == OUTSIDE:
            self.stop("outside")
            return None
        if full and when == "drop":
            self.queue = self.queue[1:]
        if answer:
            self.laid += 1
            self.queue.append(self.laid)
        return answer

    def take(self):
        if self.broken:
            return None
        self.deeds += 1
        told = self.ring.take()
        if told == OUTSIDE:
            self.stop("outside")
            return None
        if told is None:
            if self.queue:
                self.stop("empty", self.queue[0])
            return None
        wanted = self.queue.pop(0)
        if wanted != told:
            self.stop("wrong", wanted, told)
        return told


WRAPS = (N, Form(1, 1), Form(2, 0), Form(3, 0), Form(0, 3), 1, 2, 3)
FULLS = (("diff", "=", N), ("diff", ">=", Form(1, -1)), ("diff", "=", Form(0, 0)), ("diff", "=", Form(0, -1)),
         ("diff", ">=", Form(0, -1)), ("count", "=", N), ("count", ">=", Form(1, 1)), ("count", "=", Form(0, 0)),
         ("next",), ("note",))


def small_schemes():
    """Schemes of each kind, with small sizes."""
    slots = ("rest", "off", "mask")
    kinds = product(WRAPS, slots, ("same", "count", "note"), FULLS, ("refuse", "drop", "over"))
    for wrap, slot, empty, full, when in kinds:
        if slot != "mask" or not isinstance(wrap, Form):
            for n in (1, 2, 3):
                yield scheme_of(wrap, slot, empty, full, when), n


DEEDS = (
    "ppppppppppppptttttttttttttt",
    "ptptptptptptptptptptptptptppptttt",
    "tpptpppttpppptttpppppttttt",
    "pptppptppppttppptppptptttpp",
)


def plain_slots(scheme, n):
    """The slots of all counters of a small modulus."""
    return [plain_slot(scheme.slot, n, c) for c in range(plain_modulus(scheme.wrap, n))]


def plain_alike(scheme, n):
    """The least counter with the least gap, and the gap, counted step by step."""
    slots = plain_slots(scheme, n)
    if None in slots:
        return None
    gaps = [plain_gap(slots, c) for c in range(len(slots))]
    return gaps.index(min(gaps)), min(gaps)


def plain_window(scheme, n):
    """The greatest number of counters in a row that have unlike slots, wherever they begin."""
    slots = plain_slots(scheme, n)
    if None in slots:
        return 0
    twice = slots + slots
    unlike = 0
    while unlike < len(slots):
        rows = [twice[c:c + unlike + 1] for c in range(len(slots))]
        if any(len(set(row)) < len(row) for row in rows):
            break
        unlike += 1
    return unlike


def plain_room(scheme, n, most=100):
    """At how many values a ring into which k values were put is FULL; None if at none up to `most`."""
    if scheme.when == "over":
        return None
    ring = PlainRing(scheme, n)
    for k in range(most + 1):
        ring.p, ring.number, ring.note = k % ring.modulus, k, k > 0
        if ring.full():
            return k
    return None


def plain_played(watch, pieces):
    """Do all deeds of pieces one by one."""
    for times, word in pieces:
        for _ in range(times):
            if word != "take":
                watch.put()
            if word != "put":
                watch.take()
    return watch.broken


def plain_copy(watch):
    """A watch in the same state, whose values are told from the last one that was laid, at 0."""
    scheme, n = watch.ring.scheme, watch.ring.n
    copied = PlainWatch(scheme, n)
    ring, old = copied.ring, watch.ring
    ring.p, ring.t, ring.number, ring.note = old.p, old.t, old.number, old.note
    held = {value: value - watch.laid for value in watch.queue}
    # A value that the queue does not hold is wrong wherever it is taken, whichever it is.
    ring.cells = [cell if cell is None else held.get(cell, -10 ** 6) for cell in old.cells]
    copied.queue = list(held.values())
    return copied


def reached(scheme, n, most=20000):
    """All states that deeds lead to, one watch each; ends behind the first that is broken."""
    new = [plain_copy(PlainWatch(scheme, n))]
    met = set()
    while new:
        watch = new.pop()
        for deed in (watch.put, watch.take):
            following = plain_copy(watch)
            following.put() if deed == watch.put else following.take()
            yield following
            if following.broken:
                return
            following = plain_copy(following)
            key = (following.ring.p, following.ring.t, following.ring.number, following.ring.note,
                   tuple(following.ring.cells), tuple(following.queue))
            if key not in met:
                met.add(key)
                new.append(following)
                assert len(met) < most, (scheme, n)


MORE_FULLS = FULLS + (("diff", "=", Form(1, -1)), ("diff", "=", Form(0, 1)), ("diff", "=", Form(1, 1)),
                      ("diff", ">=", Form(0, 2)), ("diff", ">=", Form(2, 0)), ("count", "=", Form(0, 1)),
                      ("count", "=", Form(0, -1)), ("count", "=", Form(2, -1)), ("count", ">=", Form(0, -2)),
                      ("count", ">=", Form(0, 2)))
MORE_WRAPS = WRAPS + (Form(0, 1), Form(1, -1), Form(1, 2), Form(2, -1), Form(2, 1), Form(0, 8), Form(1, -3), 4)


def schemes_of(wraps, fulls=MORE_FULLS, empties=("same", "count", "note"), whens=("refuse", "drop", "over")):
    """The schemes with these parts, for each slot that goes with the wrap."""
    for wrap, slot, empty, full, when in product(wraps, ("rest", "off", "mask"), empties, fulls, whens):
        if slot != "mask" or not isinstance(wrap, Form):
            yield scheme_of(wrap, slot, empty, full, when)


def sized(schemes, sizes):
    """Each scheme with each size at which it has a ring."""
    for scheme, n in product(list(schemes), sizes):
        if plain_modulus(scheme.wrap, n) >= 1:
            yield scheme, n
