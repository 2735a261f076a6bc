"""Several putters with one taker, and one putter with several takers."""

from ringindexes.errors import NoHands, NotDecided, NotRight
from ringindexes.hands import way_of
from ringindexes.helpers import check_size, is_whole_from, is_word_of, lesser
from ringindexes.rooms import room_of
from ringindexes.slots import modulus_of
from ringindexes.stepping import check_hand, check_start, check_steps
from ringindexes.verdicts import verdict_of

MOST_HANDS = 4
LETTERS = ("a", "b", "c", "d")
TELL_WORDS = ("turn", "any")
TEST_WORDS = ("one", "two")
FULL_WORDS = ("far", "low")
TAKER_CYCLE = ("look", "read", "tell")
PUTTER_CYCLE = ("number", "write", "tell")


class Putters:
    """Several putters and one taker, up to the first break.

    At most as many values are given and not taken as the room, and so the window, holds. So they have
    unlike slots, and a read is wrong exactly if its value has not been written yet; neither the slots
    nor the start of the counters are of account beyond that.
    """

    def __init__(self, scheme, n, many, *, tell="turn", test="one", at=0):
        check_decided(scheme, n)
        self._room = right_room(scheme, n)
        check_many(many)
        check_switches(tell, test)
        check_start(at)
        putters = LETTERS[:many]
        self._turns = tell == "turn"
        self._tests = test == "two"
        self._letters = putters + ("t",)
        self._places = {letter: 0 for letter in self._letters}
        self._own = {letter: 0 for letter in putters}
        self._given = 0
        self._told_count = 0
        self._taken = 0
        self._steps = 0
        self._broken = None

    def step(self, hand):
        """Do the next step of a hand; its name, or None behind a break."""
        check_hand(hand, self._letters)
        if self._broken is not None:
            return None
        name = self._name_of(hand)
        self._single(hand, name)
        return name

    def play(self, *pieces):
        """Do the steps of pieces (times, hand), up to a break, which is returned."""
        check_steps(pieces, self._letters)
        for times, hand in pieces:
            self._play_piece(times, hand)
        return self._broken

    @property
    def broken(self):
        return self._broken

    @property
    def levels(self):
        return self._taken, self._told_count, self._given

    @property
    def steps(self):
        return self._steps

    def _cycle(self, hand):
        if hand == "t":
            return TAKER_CYCLE
        if self._tests:
            return ("test",) + PUTTER_CYCLE
        return PUTTER_CYCLE

    def _name_of(self, hand):
        """The name of the next step of a hand."""
        return self._cycle(hand)[self._places[hand]]

    def _single(self, hand, name):
        """Do a step of this name."""
        self._steps = self._steps + 1
        if self._stays(hand, name):
            return
        if name == "number":
            self._give(hand)
        elif name == "read":
            self._read()
        elif name == "tell":
            self._tell(hand)
        self._places[hand] = (self._places[hand] + 1) % len(self._cycle(hand))

    def _stays(self, hand, name):
        """Whether a hand stays at a step."""
        if name == "look":
            return self._taken == self._told_count
        if name == "test":
            return self._is_full()
        if name == "number":
            return self._is_full() and not self._tests
        return name == "tell" and hand != "t" and self._turns and self._told_count != self._own[hand] - 1

    def _is_full(self):
        return self._given - self._taken == self._room

    def _give(self, hand):
        full = self._is_full()
        self._given = self._given + 1
        self._own[hand] = self._given
        if full:
            self._broken = (self._steps, "over", self._given)

    def _read(self):
        if self._right_reads() == 0:
            self._broken = (self._steps, "read", self._taken + 1)

    def _tell(self, hand):
        if hand == "t":
            self._taken = self._taken + 1
        else:
            self._told_count = self._told_count + 1

    def _right_reads(self):
        """How many values that were told are read ahead of one that is not written yet."""
        end = self._told_count + 1
        unwritten = min([int(self._own[hand]) for hand in self._own if self._name_of(hand) == "write"], default=end)
        return lesser(unwritten, end) - self._taken - 1

    def _play_piece(self, times, hand):
        left = times
        while left > 0 and self._broken is None:
            left = left - self._go_on(hand, left)

    def _go_on(self, hand, times):
        """Do some of so many steps of a hand; how many."""
        name = self._name_of(hand)
        if self._stays(hand, name):
            # Only other hands change what it stays for.
            self._steps = self._steps + times
            return times
        cycles = 0
        if self._places[hand] == 0:
            cycles = lesser(times // len(self._cycle(hand)), self._cycles_ahead(hand))
        if cycles == 0:
            self._single(hand, name)
            return 1
        self._do_cycles(hand, cycles)
        return cycles * len(self._cycle(hand))

    def _cycles_ahead(self, hand):
        """How many whole cycles a hand that begins one and does not stay goes on alone."""
        if hand == "t":
            return self._right_reads()
        if self._turns and self._told_count != self._given:
            # Another putter is to tell first.
            return 0
        return self._room - self._given + self._taken

    def _do_cycles(self, hand, cycles):
        self._steps = self._steps + cycles * len(self._cycle(hand))
        if hand == "t":
            self._taken = self._taken + cycles
        else:
            self._given = self._given + cycles
            self._told_count = self._told_count + cycles


class Fan:
    """One putter and several takers that each see all values, up to the first break."""

    def __init__(self, scheme, n, many, *, full="far", at=0):
        check_decided(scheme, n)
        self._room = right_room(scheme, n)
        check_many(many)
        check_full(full)
        check_start(at)
        self._far = full == "far"
        self._modulus = modulus_of(scheme, n)
        self._at = at
        self._letters = LETTERS[:many]
        self._passed = {letter: 0 for letter in self._letters}
        self._put_count = 0
        self._deeds = 0
        self._broken = None

    def play(self, *pieces):
        """Do the deeds of pieces (times, letter), up to a break, which is returned."""
        check_steps(pieces, self._letters + ("p",))
        for times, letter in pieces:
            if self._broken is None and letter == "p":
                self._put_many(times)
            elif self._broken is None:
                self._take_many(times, letter)
        return self._broken

    @property
    def broken(self):
        return self._broken

    @property
    def put_count(self):
        return self._put_count

    @property
    def deeds(self):
        return self._deeds

    def __getitem__(self, at):
        if not is_whole_from(at, 0, len(self._letters) - 1):
            raise NoHands("many")
        return self._passed[self._letters[at]]

    def __iter__(self):
        raise TypeError("takers are asked for one by one, by their numbers")

    def _take_many(self, times, letter):
        self._passed[letter] = self._passed[letter] + lesser(times, self._ahead_of(letter))
        self._deeds = self._deeds + times

    def _put_many(self, times):
        """Do puts: until the taker that is farthest behind has as many values ahead as the room, then beyond."""
        free = lesser(times, self._room - self._most_ahead())
        self._put_count = self._put_count + free
        self._deeds = self._deeds + free
        if free < times:
            self._put_beyond(times - free)

    def _put_beyond(self, times):
        """Do puts, at least one, where one taker has as many values ahead as the room."""
        if self._far or self._ahead_of(self._lowest()) == self._room:
            self._deeds = self._deeds + times
            return
        self._put_count = self._put_count + 1
        self._deeds = self._deeds + 1
        self._broken = (self._deeds, self._put_count)

    def _ahead_of(self, letter):
        """How many values a taker has ahead of it; never more than the room, and so below M."""
        return self._put_count - self._passed[letter]

    def _most_ahead(self):
        return max([int(self._ahead_of(letter)) for letter in self._letters])

    def _lowest(self):
        """The taker whose counter is the least as a number."""
        counters = [int((self._at + self._passed[letter]) % self._modulus) for letter in self._letters]
        return self._letters[counters.index(min([int(c) for c in counters]))]


class SeveralVerdict:
    """What is said of several putters, or of several takers."""

    def __init__(self, cause, start, pieces):
        self._cause = cause
        self._start = start
        self._pieces = pieces

    @property
    def cause(self):
        return self._cause

    @property
    def start(self):
        return self._start

    @property
    def run(self):
        return self._pieces

    def __bool__(self):
        return bool(self._cause == "right")


def putters_verdict(scheme, n, many, *, tell="turn", test="one"):
    """The verdict on several putters."""
    check_decided(scheme, n)
    check_many(many)
    check_switches(tell, test)
    if not verdict_of(scheme, n):
        return SeveralVerdict("scheme", 0, ())
    if many > 1 and test == "two":
        return SeveralVerdict("test", 0, over_steps(room_of(scheme, n)))
    if many > 1 and tell == "any" and room_of(scheme, n) > 1:
        # The second putter tells of a value, and the first one's is taken for it.
        return SeveralVerdict("tell", 0, ((1, "a"), (len(PUTTER_CYCLE), "b"), (2, "t")))
    return SeveralVerdict("right", 0, ())


def over_steps(room):
    """Steps in which two putters have tested before the last number is given."""
    last = ((1, "b"), (2, "a"), (1, "b"))
    if room == 1:
        return last
    return (((room - 1) * (1 + len(PUTTER_CYCLE)), "a"),) + last


def fan_verdict(scheme, n, many, *, full="far"):
    """The verdict on several takers."""
    check_decided(scheme, n)
    check_many(many)
    check_full(full)
    verdict = verdict_of(scheme, n)
    if not verdict:
        return SeveralVerdict("scheme", 0, ())
    if many == 1 or full == "far":
        return SeveralVerdict("right", 0, ())
    # The second taker alone wraps, so its counter is the least one, and the first one is forgotten.
    return SeveralVerdict("low", modulus_of(scheme, n) - 1, ((1, "p"), (1, "b"), (verdict.room, "p")))


def check_decided(scheme, n):
    """NoSize, then NotDecided for a scheme that does not refuse, or is not of the way of counters."""
    check_size(n)
    if way_of(scheme) != "counters" or scheme.when != "refuse":
        raise NotDecided("several hands are decided for counters that refuse")


def right_room(scheme, n):
    """The room at a size at which the scheme is right; NotRight at any other."""
    verdict = verdict_of(scheme, n)
    if not verdict:
        raise NotRight(verdict.cause)
    return verdict.room


def check_many(many):
    """NoHands for any object that is no number of several hands."""
    if not is_whole_from(many, 1, MOST_HANDS):
        raise NoHands("many")


def check_switches(tell, test):
    """NoHands for switches of putters that are none."""
    if not is_word_of(tell, TELL_WORDS):
        raise NoHands("tell")
    if not is_word_of(test, TEST_WORDS):
        raise NoHands("test")


def check_full(full):
    """NoHands for a switch of takers that is none."""
    if not is_word_of(full, FULL_WORDS):
        raise NoHands("full")
