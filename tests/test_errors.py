"""The classes of errors."""

import unittest

from ringindexes import errors
from ringindexes.errors import RingError

OF_A_TEXT = ("NoForm", "NoCounter", "NoSize", "NoRing", "Outside", "NoSet",
             "TooLong", "NotDecided", "NoLag", "NoRow", "NoName", "Nested")
OF_AN_ATTRIBUTE = {"NoScheme": "part", "NoRun": "at", "NotRight": "why",
                   "NoHands": "part", "NoSteps": "at", "NoChange": "at"}


class ErrorsTest(unittest.TestCase):

    def test_ring_error_is_a_value_error(self):
        self.assertEqual(RingError.__bases__, (ValueError,))
        self.assertEqual(RingError.__module__, "ringindexes.errors")

    def test_all_eighteen_stand_straight_under_ring_error(self):
        names = OF_A_TEXT + tuple(OF_AN_ATTRIBUTE)
        self.assertEqual(len(names), 18)
        for name in names:
            with self.subTest(name):
                kind = getattr(errors, name)
                self.assertEqual(kind.__bases__, (RingError,))
                self.assertEqual(kind.__module__, "ringindexes.errors")

    def test_errors_of_a_text(self):
        for name in OF_A_TEXT:
            with self.subTest(name):
                kind = getattr(errors, name)
                error = kind("what is wrong")
                self.assertIsInstance(error, ValueError)
                self.assertIn("what is wrong", str(error))
                with self.assertRaises(kind):
                    raise error

    def test_errors_of_an_attribute_keep_it(self):
        for name, attribute in OF_AN_ATTRIBUTE.items():
            for held in ("wrap", "text", 0, 7, None):
                with self.subTest(name, held=held):
                    kind = getattr(errors, name)
                    self.assertEqual(getattr(kind(held), attribute), held)
                    self.assertEqual(getattr(kind(**{attribute: held}), attribute), held)
                    with self.assertRaises(kind) as caught:
                        raise kind(held)
                    self.assertEqual(getattr(caught.exception, attribute), held)
