"""The errors of the program; all of them stand straight under RingError."""


class RingError(ValueError):
    """Every error of the program."""


class NoForm(RingError):
    """What should be a form, or stand beside one, is none that can."""


class NoCounter(RingError):
    """What should be a counter, a part of one or stand beside one is none that can."""


class NoSize(RingError):
    """An object that is no size."""


class NoRing(RingError):
    """The modulus is below 1, so there is no ring at this size."""


class Outside(RingError):
    """There is no such slot."""


class NoSet(RingError):
    """What should be a set of sizes is none."""


class TooLong(RingError):
    """More than the program takes on."""


class NotDecided(RingError):
    """The question is not decided for such a scheme."""


class NoLag(RingError):
    """What should be a lag, or a number of values, is none."""


class NoRow(RingError):
    """What should be a row for the console is none."""


class NoName(RingError):
    """What should be a name is none, or nothing is kept by it."""


class Nested(RingError):
    """A trial within a trial."""


class NoScheme(RingError):
    """A part of a scheme is none; `part` is its name."""

    def __init__(self, part):
        self.part = part


class NoRun(RingError):
    """A run is none; `at` is the index of the first wrong piece, or None."""

    def __init__(self, at):
        self.at = at


class NotRight(RingError):
    """The scheme is not right at the size; `why` is the cause of its verdict."""

    def __init__(self, why):
        self.why = why


class NoHands(RingError):
    """A part of hands is none; `part` is its name."""

    def __init__(self, part):
        self.part = part


class NoSteps(RingError):
    """Steps that are none; `at` is the number of the first wrong piece, or 0."""

    def __init__(self, at):
        self.at = at


class NoChange(RingError):
    """A change of a menu is none; `at` is its number, or None."""

    def __init__(self, at):
        self.at = at
