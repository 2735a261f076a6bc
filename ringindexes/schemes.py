"""Schemes: how two counters go over a ring of slots."""

from ringindexes.errors import NoForm, NoScheme
from ringindexes.forms import Form, show_form
from ringindexes.helpers import is_whole_from, is_word_of, read_number

PART_NAMES = ("wrap", "slot", "empty", "full", "when")
PART_WORDS = {
    "slot": ("rest", "off", "mask"),
    "empty": ("same", "count", "note"),
    "when": ("refuse", "drop", "over"),
}
MEASURES = ("diff", "count")
SIGNS = ("=", ">=")
PLAIN_FULLS = ("next", "note")
GREATEST_SLOPE = 4
GREATEST_BASE = 20
GREATEST_WIDTH = 100
WIDTH_HEAD = "2**"
TEXT_HEADS = ("M = ", "slot ", "empty ", "full ", "when ")


class Scheme:
    """A scheme of five parts."""

    def __init__(self, *, wrap, slot, empty, full, when="refuse"):
        parts = {"wrap": wrap, "slot": slot, "empty": empty, "full": full, "when": when}
        wrong = first_wrong(parts)
        if wrong is not None:
            raise NoScheme(wrong)
        self._parts = parts

    @property
    def wrap(self):
        return self._parts["wrap"]

    @wrap.setter
    def wrap(self, value):
        self._assign("wrap", value)

    @property
    def slot(self):
        return self._parts["slot"]

    @slot.setter
    def slot(self, value):
        self._assign("slot", value)

    @property
    def empty(self):
        return self._parts["empty"]

    @empty.setter
    def empty(self, value):
        self._assign("empty", value)

    @property
    def full(self):
        return self._parts["full"]

    @full.setter
    def full(self, value):
        self._assign("full", value)

    @property
    def when(self):
        return self._parts["when"]

    @when.setter
    def when(self, value):
        self._assign("when", value)

    def _assign(self, part, value):
        parts = dict(self._parts)
        parts[part] = value
        # The other parts fit each other, so what is wrong now came with this one.
        if first_wrong(parts) is not None:
            raise NoScheme(part)
        self._parts = parts

    def change(self, part, value):
        """Assign the part of this name."""
        check_part_name(part)
        self._assign(part, value)

    def remade(self, **parts):
        """A new scheme with these parts instead of the old ones."""
        for name in parts:
            check_part_name(name)
        all_parts = dict(self._parts)
        all_parts.update(parts)
        return Scheme(**all_parts)

    def __eq__(self, other):
        return isinstance(other, Scheme) and parts_of(self) == parts_of(other)

    @staticmethod
    def spare():
        """One slot always stays free."""
        return Scheme(wrap=Form(1, 0), slot="rest", empty="same", full=("next",))

    @staticmethod
    def doubled():
        """The counters go twice around the ring."""
        return Scheme(wrap=Form(2, 0), slot="off", empty="same", full=("diff", "=", Form(1, 0)))

    @staticmethod
    def masked(width):
        """The counters have so many bits, of which the low ones select the slot."""
        return Scheme(wrap=width, slot="mask", empty="same", full=("diff", "=", Form(1, 0)))

    @staticmethod
    def counted():
        """A number of held things beside the counters."""
        return Scheme(wrap=Form(1, 0), slot="rest", empty="count", full=("count", "=", Form(1, 0)))

    @staticmethod
    def noted():
        """A note of what was done last beside the counters."""
        return Scheme(wrap=Form(1, 0), slot="rest", empty="note", full=("note",))

    @staticmethod
    def read(text):
        """The scheme with exactly this text."""
        if not isinstance(text, str):
            raise NoScheme("text")
        try:
            scheme = scheme_of_text(text)
        except (NoForm, NoScheme):
            raise NoScheme("text") from None
        # Reading is more generous than writing; only what is written so again is a scheme's text.
        if show_scheme(scheme) != text:
            raise NoScheme("text")
        return scheme


def copied_scheme(scheme):
    """A new scheme with the same parts."""
    return Scheme(wrap=scheme.wrap, slot=scheme.slot, empty=scheme.empty, full=scheme.full, when=scheme.when)


def parts_of(scheme):
    """The five parts, in order."""
    return scheme.wrap, scheme.slot, scheme.empty, scheme.full, scheme.when


def check_part_name(part):
    """NoScheme for any object that is no part's name."""
    if not is_word_of(part, PART_NAMES):
        raise NoScheme("part")


def first_wrong(parts):
    """The name of the first part that is none beside the ones ahead of it, or None."""
    for part in PART_NAMES:
        if not is_part(part, parts[part]):
            return part
        if part == "slot" and parts["slot"] == "mask" and isinstance(parts["wrap"], Form):
            return "slot"
    return None


def is_part(part, thing):
    """Whether the object is a value that the part of this name can have."""
    if part == "wrap":
        return is_wrap(thing)
    if part == "full":
        return is_full(thing)
    return is_word_of(thing, PART_WORDS[part])


def is_wrap(thing):
    """Whether the object is a small form or a width."""
    return is_small_form(thing) or is_whole_from(thing, 1, GREATEST_WIDTH)


def is_small_form(thing):
    """Whether the object is a form that a scheme may have."""
    if not isinstance(thing, Form):
        return False
    return 0 <= thing.slope <= GREATEST_SLOPE and -GREATEST_BASE <= thing.base <= GREATEST_BASE


def is_full(thing):
    """Whether the object tells how a full ring is recognised."""
    if not isinstance(thing, tuple):
        return False
    if len(thing) == 1:
        return is_word_of(thing[0], PLAIN_FULLS)
    if len(thing) != 3:
        return False
    return is_word_of(thing[0], MEASURES) and is_word_of(thing[1], SIGNS) and is_small_form(thing[2])


def show_scheme(scheme):
    """The text of a scheme."""
    shown = (show_wrap(scheme.wrap), scheme.slot, scheme.empty, show_full(scheme.full), scheme.when)
    return "; ".join([head + part for head, part in zip(TEXT_HEADS, shown)])


def show_wrap(wrap):
    """The text of a wrap."""
    if isinstance(wrap, Form):
        return show_form(wrap)
    return f"{WIDTH_HEAD}{wrap}"


def show_full(full):
    """The text of the part full."""
    if len(full) == 1:
        return full[0]
    return f"{full[0]} {full[1]} {show_form(full[2])}"


def scheme_of_text(text):
    """The scheme of a text whose heads are not looked at; NoForm or NoScheme if it has none."""
    rows = text.split("; ")
    if len(rows) != len(TEXT_HEADS):
        raise NoScheme("text")
    wrap, slot, empty, full, when = [row[len(head):] for head, row in zip(TEXT_HEADS, rows)]
    return Scheme(wrap=read_wrap(wrap), slot=slot, empty=empty, full=read_full(full), when=when)


def read_wrap(text):
    """The wrap that is written so; None for a width that is none."""
    if text.startswith(WIDTH_HEAD):
        return read_number(text.removeprefix(WIDTH_HEAD), len(str(GREATEST_WIDTH)))
    return Form.read(text)


def read_full(text):
    """The tuple that is written so, whether it is a part or none."""
    words = text.split(" ", 2)
    if len(words) < 3:
        return tuple(words)
    return words[0], words[1], Form.read(words[2])
