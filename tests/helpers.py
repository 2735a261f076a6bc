"""What the tests share: a check for the very class of an error, a count of calls, and objects of many kinds."""

import sys
import unittest

from ringindexes.counters import Counter
from ringindexes.errors import RingError
from ringindexes.forms import Form
from ringindexes.schemes import Scheme

# True and False are no integers; tuples and lists are different.
NO_INTEGERS = [True, False, None, "", "1", "N", b"1", [], [1], (), (1,), {}, {1: 1}, object(), int]

NO_SIZES = NO_INTEGERS + [0, -1, 10 ** 30 + 1, 10 ** 40, Form(0, 3), Counter(8, 3), Scheme.spare()]


def calls_of(call, *args, **told):
    """How many functions of Python a call calls, itself included."""
    many = 0

    def count(frame, event, arg):
        nonlocal many
        many += event == "call"
    before = sys.getprofile()
    sys.setprofile(count)
    try:
        call(*args, **told)
    finally:
        sys.setprofile(before)
    return many


class RingCase(unittest.TestCase):
    """A test case that asks for the very class of an error."""

    def assert_error(self, kind, call, *args, **told):
        """`call` raises an error of the very class `kind`; the error is returned."""
        with self.assertRaises(RingError) as caught:
            call(*args, **told)
        self.assertIs(type(caught.exception), kind)
        return caught.exception

    def assert_integer(self, found, wanted):
        """`found` is this value of class int, not True or False."""
        self.assertEqual(found, wanted)
        self.assertIs(type(found), int)
