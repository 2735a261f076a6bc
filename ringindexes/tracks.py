"""Tracks: watches without slots, which play runs in jumps."""

from ringindexes.gaps import gaps_from, has_outside, steps_back
from ringindexes.helpers import lesser
from ringindexes.rooms import room_of
from ringindexes.slots import modulus_of, slot_at


class Track:
    """What a watch of a scheme would be, at any size.

    As long as nothing has broken, P is the number of values laid and T that of values taken, both
    modulo M, and the number is their difference. The note need not be kept: a take that is right
    leaves less than M things, so where things are held and P = T, the last of these deeds was a
    put. A ring that does not say over is FULL exactly where it holds as many things as its room is.
    """

    def __init__(self, scheme, n):
        self._room = room_of(scheme, n)
        self._modulus = modulus_of(scheme, n)
        self._n = n
        self._slot = scheme.slot
        self._same = scheme.empty == "same"
        self._drops = scheme.when == "drop"
        self._put_count = 0
        self._taken = 0
        self._deeds = 0
        self._broken = None

    def play(self, run):
        """Do all deeds of a run, up to the first break, which is returned."""
        for times, word in run.pieces:
            if word == "put":
                self._put_many(times)
            elif word == "take":
                self._take_many(times)
            else:
                self._pair_many(times)
        return self._broken

    @property
    def put_count(self):
        return self._put_count

    @property
    def taken(self):
        return self._taken

    @property
    def held(self):
        return self._put_count - self._taken

    @property
    def deeds(self):
        return self._deeds

    @property
    def broken(self):
        return self._broken

    def _put_many(self, times):
        """Do puts: up to a FULL ring, then into the FULL one."""
        if self._broken is not None:
            return
        free = times
        if self._room is not None:
            free = lesser(times, self._room - self.held)
        self._lay(free)
        if self._broken is None and free < times:
            self._put_full(times - free)

    def _lay(self, times):
        """Lay values, up to the first one whose slot is outside."""
        laid = self._inside(times)
        self._put_count = self._put_count + laid
        self._deeds = self._deeds + laid
        if laid < times:
            self._break("outside", None, None)

    def _put_full(self, times):
        """Do puts, at least one, into a FULL ring."""
        if self.held == 0:
            # A ring that is FULL while it holds nothing is so from the beginning: its first slot is inside.
            if self._drops:
                self._put_count = self._put_count + 1
            self._break("shut", None, None)
        elif self._drops:
            self._taken = self._taken + self._inside(times)
            self._lay(times)
        else:
            self._deeds = self._deeds + times

    def _inside(self, times):
        """How many of so many next values are laid before one is outside."""
        if not has_outside(self._slot, self._n, self._modulus):
            return times
        return lesser(times, 2 * self._n - self._put_count)

    def _take_many(self, times):
        """Do takes, up to the first one that breaks."""
        if self._broken is not None:
            return
        held = self.held
        right = self._right_takes(held)
        if right is None or times <= right:
            self._taken = self._taken + lesser(times, held)
            self._deeds = self._deeds + times
            return
        self._taken = self._taken + right
        self._deeds = self._deeds + right
        self._break_take()

    def _right_takes(self, held):
        """How many takes there are ahead of one that breaks; None if none does."""
        if self._seems_empty(held):
            return 0
        gaps = self._gaps()
        # A value is overwritten if its slot has come again among the values behind it.
        return min([int(steps) for steps, gap in gaps if steps + gap < held], default=None)

    def _pair_many(self, times):
        """Do pairs, up to the first one that breaks."""
        done = 0
        if times > 0 and self.held == self._room:
            # Behind a pair that meets a FULL ring less is held, and no later one meets it so.
            self._pair()
            done = 1
        if self._broken is not None:
            return
        right = self._right_pairs(times - done)
        self._put_count = self._put_count + right
        self._taken = self._taken + right
        self._deeds = self._deeds + 2 * right
        if done + right < times:
            self._pair()

    def _pair(self):
        """Do one pair."""
        self._put_many(1)
        self._take_many(1)

    def _right_pairs(self, times):
        """How many of so many pairs, none with a FULL ring, there are ahead of one that breaks."""
        held = self.held
        if self._seems_empty(held + 1):
            return 0
        # At the take of each pair as many values lie behind the oldest one as are held between pairs.
        wrong = min([int(steps) for steps, gap in self._gaps() if gap <= held], default=None)
        inside = self._inside(times)
        if wrong is None:
            return inside
        return lesser(wrong, inside)

    def _seems_empty(self, held):
        """Whether a ring is EMPTY at a take though it holds so many things."""
        return self._same and held > 0 and held % self._modulus == 0

    def _gaps(self):
        return gaps_from(self._slot, self._n, self._modulus, self._taken % self._modulus)

    def _break_take(self):
        """Do the take that breaks."""
        wanted = self._taken + 1
        if self._seems_empty(self.held):
            self._break("empty", wanted, None)
            return
        self._taken = wanted
        self._break("wrong", wanted, self._told(wanted))

    def _told(self, wanted):
        """The last value that was laid into the slot of a value."""
        slot = slot_at(self._slot, self._n, (wanted - 1) % self._modulus)
        last = (self._put_count - 1) % self._modulus
        return self._put_count - steps_back(self._slot, self._n, self._modulus, last, slot)

    def _break(self, kind, wanted, told):
        """Count the deed that breaks, and keep the break."""
        self._deeds = self._deeds + 1
        self._broken = (kind, self._deeds, wanted, told)
