"""Hands: a putter and a taker that share a ring and go on step by step."""

from ringindexes.errors import NoHands, NotDecided
from ringindexes.helpers import is_word_of
from ringindexes.schemes import copied_scheme

SWITCH_NAMES = ("writing", "reading", "looking", "telling")
SWITCH_WORDS = {
    "writing": ("first", "last"),
    "reading": ("first", "last"),
    "looking": ("each", "kept"),
    "telling": ("one", "two"),
}
TWO_STEPS = {"counters": ("tell",), "count": ("copy", "set"), "note": ("tell", "note")}


class Hands:
    """A scheme and four switches that tell in which steps its two hands go."""

    def __init__(self, scheme, *, writing="first", reading="first", looking="each", telling="one"):
        self._way = decided_way(scheme)
        self._scheme = copied_scheme(scheme)
        self._switches = {}
        for part, value in zip(SWITCH_NAMES, (writing, reading, looking, telling)):
            self.change(part, value)

    @property
    def way(self):
        return self._way

    @property
    def scheme(self):
        return copied_scheme(self._scheme)

    @property
    def writing(self):
        return self._switches["writing"]

    @writing.setter
    def writing(self, value):
        self.change("writing", value)

    @property
    def reading(self):
        return self._switches["reading"]

    @reading.setter
    def reading(self, value):
        self.change("reading", value)

    @property
    def looking(self):
        return self._switches["looking"]

    @looking.setter
    def looking(self, value):
        self.change("looking", value)

    @property
    def telling(self):
        return self._switches["telling"]

    @telling.setter
    def telling(self, value):
        self.change("telling", value)

    def change(self, part, value):
        """Set the switch of this name."""
        check_switch_name(part)
        if not is_word_of(value, SWITCH_WORDS[part]):
            raise NoHands(part)
        self._switches[part] = value

    def remade(self, **parts):
        """New hands with the same scheme and these switches instead of the old ones."""
        for name in parts:
            check_switch_name(name)
        switches = dict(self._switches)
        switches.update(parts)
        return Hands(self._scheme, **switches)

    def __eq__(self, other):
        return isinstance(other, Hands) and self._scheme == other.scheme and switches_of(self) == switches_of(other)


def check_switch_name(part):
    """NoHands for any object that is no switch's name."""
    if not is_word_of(part, SWITCH_NAMES):
        raise NoHands("part")


def switches_of(hands):
    """The four switches, in order."""
    return hands.writing, hands.reading, hands.looking, hands.telling


def decided_way(scheme):
    """The way of a scheme that refuses; NotDecided if it does not, or is of no way."""
    way = way_of(scheme)
    if way is None or scheme.when != "refuse":
        raise NotDecided("hands are decided for three ways of schemes that refuse")
    return way


def way_of(scheme):
    """By what a scheme recognises both an empty and a full ring; None if it is of none of the three ways."""
    empty, kind = scheme.empty, scheme.full[0]
    if empty == "same" and kind in ("diff", "next"):
        return "counters"
    if empty == kind:
        return empty
    return None


def putter_cycle(hands):
    """The names of the putter's steps, in order."""
    return cycle_of("write", hands.writing, telling_steps(hands))


def taker_cycle(hands):
    """The names of the taker's steps, in order."""
    return cycle_of("read", hands.reading, telling_steps(hands))


def cycle_of(work, switch, telling):
    """The steps of a hand that does its work ahead of its telling, or behind it."""
    if switch == "first":
        return ("look", work) + telling
    return ("look",) + telling + (work,)


def telling_steps(hands):
    """The steps by which a hand tells what it has done."""
    if hands.telling == "one":
        return ("tell",)
    return TWO_STEPS[hands.way]
