"""The sizes and widths at which a scheme is right: point 25, and (c) of point 3."""

from ringindexes.counters import Counter
from ringindexes.errors import NoSize, TooLong
from ringindexes.forms import Form
from ringindexes.schemes import Scheme
from ringindexes.sizes import sizes_of, widths_of
from ringindexes.sizesets import SizeSet
from ringindexes.verdicts import verdict_of
from tests.helpers import NO_INTEGERS, RingCase, calls_of
from tests.models import FULLS, N, scheme_of, schemes_of

GREATEST = 10 ** 30
FORMS = tuple(Form(slope, base) for slope in range(5) for base in (-20, -3, -1, 0, 1, 2, 20))
LIMITS = (Form(0, -1), Form(0, 0), Form(0, 1), Form(0, 2), Form(0, 20), Form(1, -20), Form(1, -1), N, Form(1, 20),
          Form(2, -20), Form(2, 0), Form(4, 20))
LIMIT_FULLS = tuple((kind, sign, limit) for kind in ("diff", "count") for sign in ("=", ">=") for limit in LIMITS)


def parts_of(sizes):
    return [sizes.early, sizes.start, sizes.period, sizes.rests]


class SizesTest(RingCase):

    def assert_sizes(self, scheme, numbers):
        """The set tells of each of these sizes what the verdict tells."""
        sizes = sizes_of(scheme)
        for n in numbers:
            if (n in sizes) is not bool(verdict_of(scheme, n)):
                self.fail(f"{scheme.wrap, scheme.slot, scheme.empty, scheme.full, scheme.when} at {n}")
        return sizes

    def test_forms_beside_verdicts(self):
        sizes = [*range(1, 130), 1000, 1001, 10 ** 6, 2 ** 64 - 1, 2 ** 64, GREATEST - 1, GREATEST]
        fulls = FULLS[:2] + LIMIT_FULLS[::5] + (("next",), ("note",))
        kinds = {}
        for scheme in schemes_of(FORMS, fulls, whens=("refuse", "drop")):
            found = self.assert_sizes(scheme, sizes)
            kinds[bool(found.early), bool(found.rests)] = True
        self.assertEqual(len(kinds), 4)

    def test_limits_that_cross_beside_verdicts(self):
        sizes = [*range(1, 100), 10 ** 6, GREATEST]
        wraps = (Form(0, 20), Form(1, -20), Form(1, 20), Form(2, -20), Form(2, 20), Form(4, -20))
        for scheme in schemes_of(wraps, LIMIT_FULLS, ("same", "count"), ("refuse",)):
            self.assert_sizes(scheme, sizes)

    def test_widths_beside_verdicts(self):
        for scheme in schemes_of((1, 2, 3, 4, 5), FULLS + LIMIT_FULLS[::3], whens=("refuse",)):
            modulus = 2 ** scheme.wrap
            self.assert_sizes(scheme, [*range(1, 3 * modulus + 90), 997, 1000, 10 ** 6, GREATEST - 1, GREATEST])

    def test_great_widths_beside_verdicts(self):
        for width in (8, 9, 10):
            for slot, limit in (("rest", Form(0, 3)), ("off", Form(0, 20)), ("mask", Form(0, 1)), ("mask", Form(0, 8)),
                                ("mask", N)):
                scheme = scheme_of(width, slot, "count", ("count", "=", limit))
                self.assert_sizes(scheme, [*range(1, 2500), 10 ** 6, GREATEST - 1, GREATEST, 2 ** 99, 2 ** 99 + 1])

    def test_sizes_of_known_schemes(self):
        self.assertEqual(sizes_of(Scheme.spare()), SizeSet([], 2, 1, [0]))
        for scheme in (Scheme.doubled(), Scheme.counted(), Scheme.noted()):
            self.assertEqual(sizes_of(scheme), SizeSet.full_set())
            self.assertEqual(sizes_of(scheme.remade(when="drop")), SizeSet.full_set())
            self.assertEqual(sizes_of(scheme.remade(when="over")), SizeSet.none())
        for width in range(1, 11):
            sizes = sizes_of(Scheme.masked(width))
            self.assertEqual(parts_of(sizes), [[2 ** k for k in range(width)], 2 ** (width - 1) + 1, 1, []])

    def test_all_sizes_from_some_size_on(self):
        scheme = scheme_of(Form(1, -7), "rest", "count", ("count", "=", Form(0, 5)))
        self.assertEqual(parts_of(sizes_of(scheme)), [[], 12, 1, [0]])
        scheme = scheme_of(Form(2, 0), "off", "same", ("diff", "=", Form(1, -20)))
        self.assertEqual(parts_of(sizes_of(scheme)), [[], 21, 1, [0]])
        scheme = scheme_of(Form(4, 20), "rest", "count", ("count", "=", Form(0, 20)))
        # Behind 20 there are 20 counters too many; the divisors of 20 are too small.
        self.assertEqual(parts_of(sizes_of(scheme)), [[], 20, 1, [0]])

    def test_periods_of_masks(self):
        # Slots are unlike for four counters in a row exactly if 4 divides the size.
        scheme = scheme_of(10, "mask", "count", ("count", "=", Form(0, 4)))
        self.assertEqual(parts_of(sizes_of(scheme)), [[], 1, 4, [0]])
        scheme = scheme_of(10, "mask", "same", ("next",))
        self.assertEqual(parts_of(sizes_of(scheme)), [[], 1, 1024, [0]])
        scheme = scheme_of(10, "mask", "note", ("note",))
        self.assertEqual(parts_of(sizes_of(scheme)), [[], 1, 1024, [0]])

    def test_masks_with_all_rooms_beside_verdicts(self):
        for width in (1, 2, 3, 4, 6):
            for limit in range(-1, 2 ** width + 2 if width < 5 else 21):
                for kind, empty, sign in (("diff", "same", "="), ("diff", "note", ">="), ("count", "count", "=")):
                    self.assert_sizes(scheme_of(width, "mask", empty, (kind, sign, Form(0, limit))),
                                      [*range(1, 3 * 2 ** width + 30), 997, 1024, GREATEST - 1, GREATEST])
            for slope, base in ((1, -20), (1, -1), (1, 0), (1, 1), (1, 20), (2, -20), (2, 0), (4, -20), (4, 20)):
                for kind in ("diff", "count"):
                    scheme = scheme_of(width, "mask", "note", (kind, "=", Form(slope, base)))
                    self.assert_sizes(scheme, [*range(1, 3 * 2 ** width + 60), 128, 997, 1024, GREATEST])

    def test_sets_are_told_by_few_calls(self):
        # As many calls as there are sizes to be told apart, a few for each: sets are asked for very often.
        for scheme in (Scheme.spare(), Scheme.doubled(), Scheme.counted(), Scheme.noted()):
            self.assertLess(calls_of(sizes_of, scheme), 150)
        for width, most in ((3, 400), (6, 1000), (10, 12000)):
            for scheme in (Scheme.masked(width), Scheme.masked(width).remade(slot="rest"),
                           Scheme.masked(width).remade(full=("next",))):
                self.assertLess(calls_of(sizes_of, scheme), most)
        for wrap, limit in ((Form(4, -20), Form(1, -20)), (Form(0, 20), Form(4, 20))):
            self.assertLess(calls_of(sizes_of, scheme_of(wrap, full=("diff", "=", limit))), 700)

    def test_the_set_is_of_class_size_set(self):
        sizes = sizes_of(scheme=Scheme.masked(4))
        self.assertIs(type(sizes), SizeSet)
        self.assertEqual(parts_of(sizes), [[1, 2, 4, 8], 9, 1, []])
        self.assertEqual([8 in sizes, 16 in sizes], [True, False])
        sizes.early.append(16)
        self.assertEqual(sizes_of(Scheme.masked(4)).early, [1, 2, 4, 8])

    def test_widths_above_ten(self):
        for width in (11, 12, 64, 100):
            for slot in ("rest", "off", "mask"):
                self.assert_error(TooLong, sizes_of, scheme_of(width, slot))
                self.assert_error(TooLong, sizes_of, scheme_of(width, slot, when="over"))
        sizes_of(scheme_of(10, "mask"))

    def test_nothing_is_ever_right(self):
        for base in (0, -1, -20):
            self.assertEqual(sizes_of(scheme_of(Form(0, base))), SizeSet.none())


class WidthsTest(RingCase):

    def assert_widths(self, scheme, n):
        widths = widths_of(scheme, n)
        for w in range(1, 101):
            if (w in widths) is not bool(verdict_of(scheme.remade(wrap=w), n)):
                self.fail(f"{scheme.slot, scheme.empty, scheme.full} at {n} with {w}")
        return widths

    def test_widths_beside_verdicts(self):
        for scheme in schemes_of((1,), FULLS + LIMIT_FULLS[::4], whens=("refuse",)):
            for n in (1, 2, 3, 5, 7, 8, 11, 12, 24, 64, 100):
                self.assert_widths(scheme, n)

    def test_all_sizes(self):
        for n in range(1, 101):
            for limit in (Form(0, 1), Form(0, 4), N, Form(4, 20)):
                for slot, sign in (("rest", "="), ("off", ">="), ("mask", "=")):
                    self.assert_widths(scheme_of(3, slot, "count", ("count", sign, limit)), n)
                    self.assert_widths(scheme_of(3, slot, "same", ("diff", sign, limit)), n)

    def test_without_end(self):
        # The rests of powers of two by 83 repeat themselves behind 82 widths.
        scheme = scheme_of(N, "rest", "count", ("count", "=", Form(0, 20)))
        widths = widths_of(scheme, 83)
        self.assertEqual(widths.period, 82)
        for w in range(6, 1000):
            self.assertIs(w in widths, 2 ** w % 83 >= 20)
        self.assertEqual([w for w in range(1, 6) if w in widths], [5])

    def test_the_wrap_of_the_scheme_is_of_no_account(self):
        for wrap in (N, Form(0, 0), 1, 11, 100):
            scheme = scheme_of(wrap, "rest", "count", ("count", "=", Form(0, 2)))
            self.assertEqual(parts_of(widths_of(scheme, 3)), [[], 1, 2, [1]])
            self.assertEqual(scheme.wrap, wrap)

    def test_the_example(self):
        scheme = Scheme.read("M = 2**1; slot rest; empty count; full count = 2; when refuse")
        widths = widths_of(scheme=scheme, n=3)
        self.assertIs(type(widths), SizeSet)
        self.assertEqual(parts_of(widths), [[], 1, 2, [1]])
        self.assertEqual([101 in widths, 10 ** 40 in widths, 10 ** 40 + 1 in widths], [True, False, True])

    def test_all_widths_from_some_width_on(self):
        self.assertEqual(parts_of(widths_of(Scheme.masked(1), 64)), [[], 7, 1, [0]])
        self.assertEqual(widths_of(Scheme.masked(1), 63), SizeSet.none())
        self.assertEqual(parts_of(widths_of(Scheme.masked(1), 1)), [[], 1, 1, [0]])
        self.assertEqual(parts_of(widths_of(Scheme.doubled(), 64)), [[7], 8, 1, []])
        noted = widths_of(scheme_of(1, "rest", "note", ("note",)), 64)
        self.assertEqual(parts_of(noted), [[1, 2, 3, 4, 5, 6], 7, 1, []])

    def test_wrong_sizes(self):
        for wrong in NO_INTEGERS + [0, -1, 101, GREATEST, 10 ** 40, Form(0, 3), Counter(8, 3), Scheme.spare()]:
            for scheme in (Scheme.spare(), Scheme.masked(100), scheme_of(Form(0, 0))):
                with self.subTest(wrong=wrong):
                    self.assert_error(NoSize, widths_of, scheme, wrong)
        for n in (1, 100):
            self.assertEqual(widths_of(Scheme.spare().remade(when="over"), n), SizeSet.none())
