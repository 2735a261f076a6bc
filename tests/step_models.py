"""Plain models of benches, putters and fans: slots, and each step or deed as it is told."""

from itertools import product

from ringindexes.forms import Form
from tests.models import N, plain_modulus, plain_slot, schemes_of, sized
from ringindexes.verdicts import verdict_of

SWITCHES = tuple(product(("first", "last"), ("first", "last"), ("each", "kept"), ("one", "two")))
SWITCH_NAMES = ("writing", "reading", "looking", "telling")


def switches_told(values):
    return dict(zip(SWITCH_NAMES, values))


def plain_way(scheme):
    """The way of a scheme that refuses, or None."""
    if scheme.when != "refuse":
        return None
    pairs = {("same", "diff"): "counters", ("same", "next"): "counters", ("count", "count"): "count",
             ("note", "note"): "note"}
    return pairs.get((scheme.empty, scheme.full[0]))


WAY_WRAPS = (N, Form(1, 1), Form(1, 2), Form(2, 0), Form(2, -1), Form(0, 1), Form(0, 2), Form(0, 3), Form(0, 4),
             1, 2, 3)
WAY_FULLS = (("diff", "=", N), ("diff", "=", Form(0, 1)), ("diff", ">=", Form(0, 2)), ("diff", ">=", Form(1, -1)),
             ("count", "=", N), ("count", "=", Form(0, 1)), ("count", ">=", Form(0, 2)), ("count", ">=", N),
             ("count", "=", Form(0, 3)), ("next",), ("note",))


def right_schemes(sizes=(1, 2, 3, 4, 5), wraps=WAY_WRAPS, fulls=WAY_FULLS):
    """The schemes of the three ways, each with the sizes at which it is right."""
    for scheme, n in sized(schemes_of(wraps, fulls, whens=("refuse",)), sizes):
        if plain_way(scheme) and verdict_of(scheme, n):
            yield scheme, n


class PlainHand:

    def __init__(self, steps, counter, note):
        self.steps, self.note = steps, note
        self.place = 0
        self.counter = counter
        # Which counter the work of this cycle is done at: the one from before its telling.
        self.work_at = counter
        self.done = self.moved = 0
        self.other, self.number, self.told_note = counter, 0, "take"
        self.copy = None


class PlainBench:
    """A bench as point 49 tells it; the slots are those of the ring."""

    def __init__(self, scheme, n, writing="first", reading="first", looking="each", telling="one", at=0):
        self.scheme, self.n, self.looking = scheme, n, looking
        self.way = plain_way(scheme)
        self.modulus = plain_modulus(scheme.wrap, n)
        telling_steps = ["tell"]
        if telling == "two":
            telling_steps = {"counters": ["tell"], "count": ["copy", "set"], "note": ["tell", "note"]}[self.way]
        self.telling = telling

        def cycle(word, switch):
            return ["look", word, *telling_steps] if switch == "first" else ["look", *telling_steps, word]
        self.p = PlainHand(cycle("write", writing), at % self.modulus, "put")
        self.t = PlainHand(cycle("read", reading), at % self.modulus, "take")
        self.number, self.note = 0, "take"
        self.slots = [None] * n
        self.steps, self.broken = 0, None

    def state(self):
        return [self.broken, (self.t.moved, self.p.moved, self.p.done), self.steps]

    def full(self):
        kind, *rest = self.scheme.full
        if kind == "next":
            return (self.p.counter + 1) % self.modulus == self.p.other
        if kind == "note":
            return self.p.counter == self.p.other and self.p.told_note == "put"
        measured = (self.p.counter - self.p.other) % self.modulus if kind == "diff" else self.p.number
        limit = rest[1].slope * self.n + rest[1].base
        return measured == limit if rest[0] == "=" else measured >= limit

    def empty(self):
        if self.way == "count":
            return self.t.number == 0
        return self.t.counter == self.t.other and (self.way == "counters" or self.t.told_note == "take")

    def copy_anew(self, hand):
        other = self.t if hand is self.p else self.p
        hand.other, hand.number, hand.told_note = other.counter, self.number, self.note

    def step(self, word):
        if self.broken:
            return None
        self.steps += 1
        hand = self.p if word == "p" else self.t
        name = hand.steps[hand.place]
        if name == "look":
            if self.looking == "each":
                self.copy_anew(hand)
            if self.full() if word == "p" else self.empty():
                self.copy_anew(hand)
                return name
            hand.work_at = hand.counter
        else:
            getattr(self, "do_" + name)(hand)
        hand.place = (hand.place + 1) % len(hand.steps)
        return name

    def do_write(self, hand):
        hand.done += 1
        self.slots[plain_slot(self.scheme.slot, self.n, hand.work_at)] = hand.done

    def do_read(self, hand):
        hand.done += 1
        if self.slots[plain_slot(self.scheme.slot, self.n, hand.work_at)] != hand.done:
            self.broken = (self.steps, hand.done)

    def move(self, hand):
        hand.counter = (hand.counter + 1) % self.modulus
        hand.moved += 1

    def do_tell(self, hand):
        self.move(hand)
        if self.telling == "one":
            self.number += 1 if hand is self.p else -1
            self.note = hand.note

    def do_copy(self, hand):
        hand.copy = self.number

    def do_set(self, hand):
        self.number = hand.copy + (1 if hand is self.p else -1)
        self.move(hand)

    def do_note(self, hand):
        self.note = hand.note

    def play(self, *pieces):
        for times, word in pieces:
            for _ in range(times):
                self.step(word)
        return self.broken


class PlainPutters:
    """Several putters as point 53 tells them."""

    def __init__(self, scheme, n, many, room, tell="turn", test="one", at=0):
        self.scheme, self.n, self.room, self.turn = scheme, n, room, tell == "turn"
        self.modulus = plain_modulus(scheme.wrap, n)
        self.at = at
        cycle = ["number", "write", "tell"] if test == "one" else ["test", "number", "write", "tell"]
        self.two = test == "two"
        self.cycles = {**{word: cycle for word in "abcd"[:many]}, "t": ["look", "read", "tell"]}
        self.place = dict.fromkeys(self.cycles, 0)
        self.mine = {}
        self.given = self.told = self.taken = self.reads = 0
        self.slots = [None] * n
        self.steps, self.broken = 0, None

    def state(self):
        return [self.broken, (self.taken, self.told, self.given), self.steps]

    def slot(self, value):
        return plain_slot(self.scheme.slot, self.n, (self.at + value - 1) % self.modulus)

    def step(self, word):
        if self.broken:
            return None
        self.steps += 1
        name = self.cycles[word][self.place[word]]
        if self.taker_does(name) if word == "t" else self.putter_does(name, word):
            self.place[word] = (self.place[word] + 1) % len(self.cycles[word])
        return name

    def putter_does(self, name, word):
        """Whether a putter goes on, its step done."""
        full = self.given - self.taken == self.room
        if name == "test":
            return not full
        if name == "number":
            if full and not self.two:
                return False
            self.given += 1
            self.mine[word] = self.given
            if full:
                self.broken = (self.steps, "over", self.given)
        elif name == "write":
            self.slots[self.slot(self.mine[word])] = self.mine[word]
        else:
            if self.turn and self.told != self.mine[word] - 1:
                return False
            self.told += 1
        return True

    def taker_does(self, name):
        if name == "look":
            return self.told != self.taken
        if name == "read":
            self.reads += 1
            if self.slots[self.slot(self.reads)] != self.reads:
                self.broken = (self.steps, "read", self.reads)
        else:
            self.taken += 1
        return True

    def play(self, *pieces):
        for times, word in pieces:
            for _ in range(times):
                self.step(word)
        return self.broken


class PlainFan:
    """A fan as point 55 tells it, with the counters themselves."""

    def __init__(self, scheme, n, many, room, full="far", at=0):
        self.scheme, self.n, self.room, self.far = scheme, n, room, full == "far"
        self.modulus = plain_modulus(scheme.wrap, n)
        self.p = at % self.modulus
        self.t = [self.p] * many
        self.passed = [0] * many
        self.put_count = self.deeds = 0
        self.broken = None

    def state(self):
        return [self.broken, self.put_count, self.deeds, self.passed]

    def full(self):
        behind = [(self.p - t) % self.modulus for t in self.t]
        measured = max(behind) if self.far else behind[self.t.index(min(self.t))]
        if self.scheme.full == ("next",):
            return measured == self.modulus - 1
        _, sign, limit = self.scheme.full
        limit = limit.slope * self.n + limit.base
        return measured == limit if sign == "=" else measured >= limit

    def deed(self, word):
        if self.broken:
            return
        self.deeds += 1
        if word != "p":
            k = "abcd".index(word)
            if self.passed[k] < self.put_count:
                self.passed[k] += 1
                self.t[k] = (self.t[k] + 1) % self.modulus
        elif not self.full():
            wrong = any(self.put_count - passed == self.room for passed in self.passed)
            self.put_count += 1
            self.p = (self.p + 1) % self.modulus
            if wrong:
                self.broken = (self.deeds, self.put_count)

    def play(self, *pieces):
        for times, word in pieces:
            for _ in range(times):
                self.deed(word)
        return self.broken
