"""Verdicts on hands, and the shortest order of steps that breaks them."""

from ringindexes.errors import NotRight, TooLong
from ringindexes.hands import putter_cycle, taker_cycle
from ringindexes.handwork import Work
from ringindexes.slots import modulus_of
from ringindexes.verdicts import verdict_of
from ringindexes.windows import alike_of

GREATEST_TRIED_MODULUS = 4


class HandsVerdict:
    """What is said of hands at a size."""

    def __init__(self, hands, n):
        self._cause = hands_cause(hands, n)
        self._start, self._pieces = breaking_steps(hands, n, self._cause)

    @property
    def cause(self):
        return self._cause

    @property
    def start(self):
        return self._start

    @property
    def run(self):
        return self._pieces

    def __bool__(self):
        return bool(self._cause == "right")


def hands_verdict(hands, n):
    """The verdict on hands at a size."""
    return HandsVerdict(hands, n)


def hands_cause(hands, n):
    """The first cause that applies."""
    verdict = verdict_of(hands.scheme, n)
    if not verdict:
        return "scheme"
    if hands.looking == "kept" and hands.way != "counters":
        return "kept"
    if hands.writing == "last":
        return "write"
    # In the way of the note the room is M.
    if hands.telling == "two" and hands.way != "counters" and verdict.room != 1:
        return "tell"
    if hands.reading == "last" and verdict.room >= verdict.window:
        return "read"
    return "right"


def breaking_steps(hands, n, cause):
    """A start and pieces of steps from there whose last step breaks a bench; 0 and no pieces if there are none."""
    if cause == "kept":
        return 0, kept_steps(hands)
    if cause == "write":
        return 0, write_steps(hands)
    if cause == "tell":
        return 0, tell_steps(hands)
    if cause == "read":
        return read_steps(hands, n)
    return 0, ()


def kept_steps(hands):
    """The taker's copy tells of one value for good, so it reads a second one."""
    putter, taker = putter_cycle(hands), taker_cycle(hands)
    return (len(putter), "p"), (1 + len(taker) + steps_through(taker, "read"), "t")


def write_steps(hands):
    """The putter tells of a value ahead of writing it."""
    before = steps_through(putter_cycle(hands), "write") - 1
    return (before, "p"), (looks_anew(hands) + steps_through(taker_cycle(hands), "read"), "t")


def tell_steps(hands):
    """What the taker tells comes between two steps of the putter's telling."""
    putter, taker = putter_cycle(hands), taker_cycle(hands)
    through = steps_through(taker, "read")
    if hands.way == "count":
        # The second put sets the number without the first take, so a third value is read.
        return (2 * len(putter) - 1, "p"), (len(taker), "t"), (1, "p"), (len(taker) + through, "t")
    # The put sets its note behind the take of its value, so a second value is read.
    return (len(putter) - 1, "p"), (len(taker), "t"), (1, "p"), (through, "t")


def read_steps(hands, n):
    """The slot of a value that was told as taken is written anew before the value is read."""
    putter, taker = putter_cycle(hands), taker_cycle(hands)
    start, gap = alike_of(hands.scheme, n)
    anew = looks_anew(hands)
    # As much is held as there are steps to the next counter with the slot of the start.
    fill = (gap * len(putter), "p")
    told = (anew + len(taker) - 1, "t")
    return start, (fill, told, (anew + steps_through(putter, "write"), "p"), (1, "t"))


def steps_through(cycle, name):
    """How many steps a cycle has up to one of this name, itself included."""
    return cycle.index(name) + 1


def looks_anew(hands):
    """How often a hand stays at its look to copy, where by its old copies it stays."""
    return 1 if hands.looking == "kept" else 0


def shortest_break(hands, n):
    """The shortest and first text of steps that breaks a bench that starts at 0, or None."""
    scheme = hands.scheme
    verdict = verdict_of(scheme, n)
    if not verdict:
        raise NotRight(verdict.cause)
    if modulus_of(scheme, n) > GREATEST_TRIED_MODULUS:
        raise TooLong("all orders of steps are tried for moduli to 4 alone")
    return first_break(Work(hands, n, 0))


def first_break(work):
    """The shortest and first text of steps that leads to a wrong read from the state of a work, or None."""
    met = {work.state(): True}
    # Texts of one length are tried in alphabetical order, and so are those that are one longer.
    rows = [("", work.state())]
    while len(rows) > 0:
        longer = []
        for text, state in rows:
            for hand in ("p", "t"):
                work.stand(state)
                work.single(hand)
                if work.due() is not None:
                    return text + hand
                if work.state() not in met:
                    met[work.state()] = True
                    longer.append((text + hand, work.state()))
        rows = longer
    return None
