"""What two hands do at a ring, in single steps and in leaps of many cycles.

The value v is written at the counter that is v - 1 steps behind the start, whatever the order of the
steps, and is due to be read there. So a read is right exactly if its value has been written and its
slot has not come again among the values written since; the slots themselves need not be kept.
"""

from ringindexes.gaps import gaps_from
from ringindexes.hands import putter_cycle, taker_cycle
from ringindexes.helpers import lesser
from ringindexes.rooms import room_of
from ringindexes.slots import modulus_of

START_COPIES = (0, 0, "take")
# More cycles than any piece of steps has.
ENDLESS = 10 ** 41


class Hand:
    """One hand: its place in its cycle, how far it has come, and what it has copied.

    Its goal is how far its counter may be ahead of the other one, and the number at which it stays.
    """

    def __init__(self, cycle, goal, sign, note):
        self.cycle = cycle
        self.goal = goal
        self.sign = sign
        self.note = note
        self.place = 0
        self.moved = 0
        self.done = 0
        self.copies = START_COPIES
        self.loaded = 0


class Work:
    """Two hands at a ring whose scheme is right, up to the first wrong read.

    How far counters have moved is counted without end; modulo M these are steps behind the start.
    """

    def __init__(self, hands, n, at):
        scheme = hands.scheme
        self._kind = hands.way
        self._keeps = hands.looking == "kept"
        self._notes_by_telling = hands.way == "note" and hands.telling == "one"
        self._slot = scheme.slot
        self._size = n
        self._modulus = modulus_of(scheme, n)
        self._room = room_of(scheme, n)
        self._at = at
        self._number = 0
        self._note = "take"
        self._due = None
        self._putter = Hand(putter_cycle(hands), self._room, 1, "put")
        self._taker = Hand(taker_cycle(hands), 0, -1, "take")

    def due(self):
        """The value that the wrong read was to give, or None."""
        return self._due

    def three_levels(self):
        """How many values were taken, told and written."""
        return self._taker.moved, self._putter.moved, self._putter.done

    def state(self):
        """All that the next steps depend on, as one key; the same wherever whole laps are between."""
        laps = self._taker.moved - self._taker.moved % self._modulus
        return self._number, self._note, self._hand_state(self._putter, laps), self._hand_state(self._taker, laps)

    def _hand_state(self, hand, laps):
        return hand.place, hand.moved - laps, hand.done - laps, hand.copies, hand.loaded

    def stand(self, state):
        """Go back to a state."""
        self._number, self._note, putter, taker = state
        for hand, told in ((self._putter, putter), (self._taker, taker)):
            hand.place, hand.moved, hand.done, hand.copies, hand.loaded = told
        self._due = None

    def single(self, word):
        """Do the next step of a hand; its name."""
        hand = self._hand_of(word)
        name = hand.cycle[hand.place]
        if name == "look":
            self._look(hand)
        else:
            self._do(hand, name)
            hand.place = (hand.place + 1) % len(hand.cycle)
        return name

    def go_on(self, word, times):
        """Do some of so many steps of a hand; how many."""
        hand = self._hand_of(word)
        if hand.place > 0:
            self.single(word)
            return 1
        cycles = self._whole_cycles(hand, times)
        if cycles > 0:
            self._do_cycles(hand, cycles)
            return cycles * len(hand.cycle)
        stayed = self._cycles_ahead(hand) == 0
        self.single(word)
        if stayed and self._cycles_ahead(hand) == 0:
            # What it would copy now is what it has copied, so it stays for good.
            return times
        return 1

    def _hand_of(self, word):
        return self._putter if word == "p" else self._taker

    def _told_to(self, hand):
        """What a hand copies at a look: the other counter, the number and the note."""
        other = self._taker if hand.sign > 0 else self._putter
        return other.moved % self._modulus, self._number, self._note

    def _look(self, hand):
        if self._cycles_ahead(hand) > 0:
            hand.place = 1
        elif self._keeps:
            hand.copies = self._told_to(hand)

    def _do(self, hand, name):
        """Do a step that is no look."""
        if name == "write":
            hand.done = hand.done + 1
        elif name == "read":
            self._read()
        elif name == "copy":
            hand.loaded = self._number
        elif name == "note":
            self._note = hand.note
        else:
            self._tell(hand, name)

    def _read(self):
        if self._right_reads() == 0:
            self._due = self._taker.done + 1
        self._taker.done = self._taker.done + 1

    def _tell(self, hand, name):
        """Move the counter on, and change with it what goes with it."""
        hand.moved = hand.moved + 1
        if name == "set":
            self._number = hand.loaded + hand.sign
            # What was copied is of no account any more, so states that differ in it are one.
            hand.loaded = 0
        elif self._kind == "count":
            self._number = self._number + hand.sign
        elif self._notes_by_telling:
            self._note = hand.note

    def _whole_cycles(self, hand, times):
        """How many cycles a hand at its look does in so many steps, ahead of anything but cycles."""
        cycles = lesser(times // len(hand.cycle), self._cycles_ahead(hand))
        if hand.sign < 0:
            return lesser(cycles, self._right_reads())
        return cycles

    def _do_cycles(self, hand, cycles):
        hand.moved = hand.moved + cycles
        hand.done = hand.done + cycles
        # Both are kept up in each way; only the way that tests by one of them asks for it.
        self._number = self._number + hand.sign * cycles
        self._note = hand.note

    def _right_reads(self):
        """How many reads there are ahead of one that is wrong, if nothing is written meanwhile."""
        held = self._putter.done - self._taker.done
        if held <= self._room:
            return held
        c = (self._at + self._taker.done) % self._modulus
        gaps = gaps_from(self._slot, self._size, self._modulus, c)
        return min([int(steps) for steps, gap in gaps if steps + gap < held], default=held)

    def _cycles_ahead(self, hand):
        """How many cycles a hand that goes on alone does ahead of the look at which it stays."""
        moved, number, note = hand.copies if self._keeps else self._told_to(hand)
        if self._kind == "count":
            # Looks pass only ahead of the goal, and a telling goes one step; so no number beyond it is seen.
            ahead = (hand.goal - number) * hand.sign
            return ENDLESS if self._keeps and ahead > 0 else ahead
        ahead = (moved + hand.goal - hand.moved) % self._modulus
        if self._kind == "counters" or note == hand.note:
            return ahead
        if self._keeps:
            return ENDLESS
        # Its first telling sets the note with which it stays when the counters meet.
        return self._modulus if ahead == 0 else ahead
