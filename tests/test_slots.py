"""Moduli, slots and gaps of counters: points 10 and 11."""

from itertools import product

from ringindexes.counters import Counter
from ringindexes.errors import NoCounter, NoRing, NoSize
from ringindexes.forms import Form
from ringindexes.schemes import Scheme
from ringindexes.slots import gap_of, modulus_of, slot_of
from tests.helpers import NO_INTEGERS, RingCase
from tests.models import N, plain_gap, plain_modulus, plain_slot, scheme_of

GREATEST = 10 ** 30
NO_SIZES = NO_INTEGERS + [0, -1, GREATEST + 1, 10 ** 40, Form(0, 3), Counter(8, 3), Scheme.spare()]
CALLS = (modulus_of, lambda scheme, n: slot_of(scheme, n, 0), lambda scheme, n: gap_of(scheme, n, 0))


def all_wraps():
    return [Form(slope, base) for slope in range(5) for base in (-20, -7, -2, -1, 0, 1, 2, 5, 20)] + list(range(1, 7))


class ModulusTest(RingCase):

    def test_forms_and_widths(self):
        for wrap, n in product(all_wraps(), range(1, 11)):
            scheme = scheme_of(wrap)
            modulus = plain_modulus(wrap, n)
            if modulus >= 1:
                self.assert_integer(modulus_of(scheme, n), modulus)
            else:
                for call in CALLS:
                    self.assert_error(NoRing, call, scheme, n)
        self.assertEqual(modulus_of(scheme=scheme_of(5), n=3), 32)

    def test_great_numbers(self):
        self.assertEqual(modulus_of(scheme_of(Form(4, 20)), GREATEST), 4 * GREATEST + 20)
        self.assertEqual(modulus_of(scheme_of(Form(1, -20)), GREATEST), GREATEST - 20)
        for width in (1, 63, 64, 65, 100):
            for n in (1, 7, GREATEST):
                self.assertEqual(modulus_of(scheme_of(width), n), 2 ** width)

    def test_a_modulus_of_one_and_below(self):
        scheme = scheme_of(Form(1, -5))
        self.assertEqual([modulus_of(scheme, 6), slot_of(scheme, 6, 0), gap_of(scheme, 6, 0)], [1, 0, 1])
        for n in (1, 4, 5):
            for call in CALLS:
                self.assert_error(NoRing, call, scheme, n)
        for base in (0, -1, -20):
            self.assert_error(NoRing, modulus_of, scheme_of(Form(0, base)), GREATEST)
        self.assertEqual(modulus_of(scheme_of(Form(0, 1)), GREATEST), 1)

    def test_no_sizes(self):
        for wrong in NO_SIZES:
            for scheme in (scheme_of(N), scheme_of(5), scheme_of(Form(0, 0))):
                for call in CALLS:
                    with self.subTest(wrong=wrong, call=call):
                        self.assert_error(NoSize, call, scheme, wrong)

    def test_the_parts_now_count(self):
        scheme = scheme_of(N)
        scheme.wrap = 3
        self.assertEqual(modulus_of(scheme, 5), 8)


class SlotTest(RingCase):

    def test_beside_a_step_by_step_count(self):
        for wrap, slot, n in product(all_wraps(), ("rest", "off", "mask"), range(1, 11)):
            modulus = plain_modulus(wrap, n)
            if modulus < 1 or (slot == "mask" and isinstance(wrap, Form)):
                continue
            scheme = scheme_of(wrap, slot)
            slots = [plain_slot(slot, n, c) for c in range(modulus)]
            gaps = [plain_gap(slots, c) for c in range(modulus)]
            with self.subTest(wrap=wrap, slot=slot, n=n):
                self.assertEqual([slot_of(scheme, n, c) for c in range(modulus)], slots)
                self.assertEqual([gap_of(scheme, n, c) for c in range(modulus)], gaps)

    def test_kinds(self):
        scheme = scheme_of(3)
        self.assert_integer(slot_of(scheme=scheme, n=3, c=7), 1)
        self.assert_integer(gap_of(scheme=scheme, n=3, c=6), 2)

    def test_outside(self):
        scheme = scheme_of(Form(2, 1), "off")
        self.assertEqual([slot_of(scheme, 3, c) for c in range(7)], [0, 1, 2, 0, 1, 2, None])
        self.assertEqual([gap_of(scheme, 3, c) for c in range(7)], [3, 3, 3, 4, 4, 4, None])

    def test_gaps_about_the_size_and_the_wrap(self):
        rest = scheme_of(Form(1, 2))
        self.assertEqual([gap_of(rest, 5, c) for c in range(7)], [5, 5, 7, 7, 7, 2, 2])
        small = scheme_of(Form(0, 3))
        self.assertEqual([gap_of(small, 9, c) for c in range(3)], [3, 3, 3])
        mask = scheme_of(3, "mask")
        self.assertEqual([gap_of(mask, 3, c) for c in range(8)], [1, 3, 1, 3, 1, 3, 1, 3])
        self.assertEqual([gap_of(mask, 5, c) for c in range(8)], [1, 1, 1, 5, 1, 1, 1, 5])
        self.assertEqual([gap_of(mask, 8, c) for c in range(8)], [8] * 8)
        self.assertEqual([gap_of(mask, 1, c) for c in range(8)], [1] * 8)
        self.assertEqual([gap_of(mask, 17, c) for c in range(8)], [1] * 8)

    def test_no_counters(self):
        for slot, wrap in (("rest", N), ("off", N), ("mask", 3), ("off", Form(3, 0))):
            scheme = scheme_of(wrap, slot)
            modulus = plain_modulus(wrap, 5)
            self.assertIn(slot_of(scheme, 5, modulus - 1), (4, None, 4))
            for wrong in NO_INTEGERS + [-1, modulus, modulus + 1, 10 ** 40, Counter(modulus, 1), N, scheme]:
                with self.subTest(slot=slot, wrong=wrong):
                    self.assert_error(NoCounter, slot_of, scheme, 5, wrong)
                    self.assert_error(NoCounter, gap_of, scheme, 5, wrong)

    def test_which_error_comes_first(self):
        for call in (slot_of, gap_of):
            self.assert_error(NoSize, call, scheme_of(Form(0, 0)), 0, None)
            self.assert_error(NoSize, call, scheme_of(N), True, -1)
            self.assert_error(NoRing, call, scheme_of(Form(0, 0)), 3, None)
            self.assert_error(NoRing, call, scheme_of(Form(1, -3)), 3, 0)
            self.assert_error(NoCounter, call, scheme_of(Form(1, -3)), 4, 1)


class GreatGapTest(RingCase):

    def assert_gaps(self, scheme, n, wanted):
        for c, gap in wanted.items():
            with self.subTest(c=c):
                self.assert_integer(gap_of(scheme, n, c), gap)
                modulus = modulus_of(scheme, n)
                self.assertEqual(slot_of(scheme, n, (c + gap) % modulus), slot_of(scheme, n, c))

    def test_rest(self):
        n = GREATEST
        self.assert_gaps(scheme_of(N), n, {0: n, 1: n, n - 1: n})
        self.assert_gaps(scheme_of(Form(2, 0)), n, {0: n, n - 1: n, n: n, 2 * n - 1: n})
        self.assert_gaps(scheme_of(Form(1, 3)), n, {0: n, 2: n, 3: n + 3, n - 1: n + 3, n: 3, n + 2: 3})
        modulus = 2 ** 100
        self.assert_gaps(scheme_of(100), n, {0: n, modulus - n - 1: n, modulus - n: modulus, n - 1: modulus,
                                             n: modulus - n, modulus - 1: modulus - n})
        self.assert_gaps(scheme_of(100), 3, {0: 3, modulus - 4: 3, modulus - 3: 4, modulus - 2: 4, modulus - 1: 1})

    def test_off(self):
        n = GREATEST
        self.assert_gaps(scheme_of(Form(2, 0), "off"), n, {0: n, n - 1: n, n: n, 2 * n - 1: n})
        self.assert_gaps(scheme_of(Form(1, 3), "off"), n, {0: n, 2: n, 3: n + 3, n - 1: n + 3, n: 3, n + 2: 3})
        self.assert_gaps(scheme_of(Form(3, 0), "off"), n, {0: n, n - 1: n, n: 2 * n, 2 * n - 1: 2 * n})
        self.assertIsNone(gap_of(scheme_of(Form(3, 0), "off"), n, 2 * n))
        self.assertIsNone(slot_of(scheme_of(Form(3, 0), "off"), n, 3 * n - 1))

    def test_mask(self):
        modulus = 2 ** 100
        scheme = scheme_of(100, "mask")
        power = 2 ** 90
        self.assert_gaps(scheme, power, {0: power, power - 1: power, modulus - power: power, modulus - 1: power})
        self.assert_gaps(scheme, power + 1, {0: 1, power - 2: 1, power - 1: power + 1, power: 1,
                                             2 * power - 1: power + 1, modulus - 1: power + 1, modulus - 2: 1})
        self.assert_gaps(scheme, 1, {0: 1, modulus - 1: 1})
        self.assert_gaps(scheme_of(90, "mask"), power, {0: power, power - 1: power})
        self.assert_gaps(scheme_of(90, "mask"), power + 1, {0: 1, power - 1: 1})
        self.assert_gaps(scheme_of(90, "mask"), 2 * power, {0: power, power - 1: power})

    def test_mask_beside_its_lowest_free_bit(self):
        # The bits 30, 31, 32 and 34 of 10 ** 30 - 1 are 0, all others up to 35 are 1.
        scheme, low = scheme_of(100, "mask"), 2 ** 30
        self.assertEqual((GREATEST - 1) % 2 ** 36, 2 ** 36 - 1 - 7 * low - 16 * low)
        self.assert_gaps(scheme, GREATEST, {0: low, 5: low, low - 1: low, low: low, 6 * low: low,
                                            7 * low: 9 * low, 8 * low - 1: 9 * low, 8 * low: low, 16 * low: low})
