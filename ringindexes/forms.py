"""Forms: slope * N + base."""

from ringindexes.errors import NoForm
from ringindexes.helpers import check_size, is_whole, read_number

MOST_DIGITS = 40


class Form:
    """The form slope * N + base."""

    def __init__(self, slope, base):
        if not is_whole(slope) or not is_whole(base):
            raise NoForm("the slope and the base of a form are integers")
        self.slope = slope
        self.base = base

    def __call__(self, n):
        check_size(n)
        return form_at(self, n)

    def __add__(self, other):
        added = as_form(other)
        return Form(self.slope + added.slope, self.base + added.base)

    def __radd__(self, other):
        return self + other

    def __sub__(self, other):
        return self + -as_form(other)

    def __rsub__(self, other):
        return -self + other

    def __mul__(self, other):
        if not is_whole(other):
            raise NoForm("a form is multiplied by an integer")
        return Form(self.slope * other, self.base * other)

    def __rmul__(self, other):
        return self * other

    def __neg__(self):
        return Form(-self.slope, -self.base)

    def __eq__(self, other):
        return isinstance(other, Form) and self.slope == other.slope and self.base == other.base

    def __lt__(self, other):
        return place_of(self) < place_of(other)

    def __le__(self, other):
        return place_of(self) <= place_of(other)

    def __gt__(self, other):
        return place_of(self) > place_of(other)

    def __ge__(self, other):
        return place_of(self) >= place_of(other)

    @staticmethod
    def read(text):
        """The form with exactly this text."""
        if not isinstance(text, str):
            raise NoForm("the text of a form is a string")
        form = form_of_words(text.split(" "))
        # Reading is more generous than writing; only what is written so again is a form's text.
        if show_form(form) != text:
            raise NoForm("this is no text of a form")
        return form


def form_at(form, n):
    """The value of a form at an integer that is known to be a size."""
    return form.slope * n + form.base


def as_form(thing):
    """A form for itself, an integer as a form without a slope; NoForm for any other object."""
    if isinstance(thing, Form):
        return thing
    return Form(0, thing)


def place_of(thing):
    """By what a form is compared with others."""
    if not isinstance(thing, Form):
        raise NoForm("forms are compared with forms alone")
    return thing.slope, thing.base


def show_form(form):
    """The text of a form."""
    if form.slope == 0:
        return str(form.base)
    shown = show_slope(form.slope)
    if form.base > 0:
        return f"{shown} + {form.base}"
    if form.base < 0:
        return f"{shown} - {-form.base}"
    return shown


def show_slope(slope):
    """The text of a slope that is not 0."""
    if slope == 1:
        return "N"
    if slope == -1:
        return "-N"
    return f"{slope}*N"


def form_of_words(words):
    """The form that is written with these words; NoForm if a part cannot be read."""
    slope, base = 0, 0
    if words[0].endswith("N"):
        slope = read_slope(words[0])
    else:
        base = read_signed(words[0])
    if len(words) == 3:
        signed = words[1] + words[2]
        base = read_signed(signed.removeprefix("+"))
    # What was not read is None, and that is no integer for a form.
    return Form(slope, base)


def read_slope(word):
    """The slope whose text this is, or None."""
    if word == "N":
        return 1
    if word == "-N":
        return -1
    return read_signed(word.removesuffix("*N"))


def read_signed(word):
    """The integer whose text this is, or None."""
    if not word.startswith("-"):
        return read_number(word, MOST_DIGITS)
    number = read_number(word.removeprefix("-"), MOST_DIGITS)
    if number is None:
        return None
    return -number
