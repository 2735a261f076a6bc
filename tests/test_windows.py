"""Windows: point 20."""

from ringindexes.errors import NoRing, NoSize
from ringindexes.forms import Form
from ringindexes.schemes import Scheme
from ringindexes.slots import gap_of, modulus_of, slot_of
from ringindexes.windows import alike_of, window_of
from tests.helpers import NO_SIZES, RingCase
from tests.models import N, plain_alike, plain_window, scheme_of, schemes_of, sized

GREATEST = 10 ** 30
WRAPS = tuple(Form(slope, base) for slope in range(5) for base in (-4, -1, 0, 1, 2, 5, 9)) + (1, 2, 3, 4, 5)


class WindowTest(RingCase):

    def assert_alike(self, scheme, n, wanted):
        """alike_of tells this, and the window goes with it."""
        self.assertEqual(alike_of(scheme, n), wanted)
        if wanted is None:
            self.assert_integer(window_of(scheme, n), 0)
        else:
            self.assert_integer(window_of(scheme, n), wanted[1])
            self.assertEqual([type(part) for part in alike_of(scheme, n)], [int, int])

    def test_beside_a_step_by_step_count(self):
        for scheme, n in sized(schemes_of(WRAPS, (("next",),), ("same",), ("refuse",)), range(1, 11)):
            with self.subTest(wrap=scheme.wrap, slot=scheme.slot, n=n):
                self.assert_alike(scheme, n, plain_alike(scheme, n))
                self.assertEqual(window_of(scheme, n), plain_window(scheme, n))

    def test_masks_beside_a_step_by_step_count(self):
        for width in (1, 2, 3, 4, 5, 6, 7):
            for n in (1, 2, 3, 4, 5, 6, 7, 8, 9, 12, 15, 16, 17, 21, 24, 31, 32, 33, 40, 64, 65, 100):
                with self.subTest(width=width, n=n):
                    self.assert_alike(scheme_of(width, "mask"), n, plain_alike(scheme_of(width, "mask"), n))

    def test_empty_full_and_when_are_of_no_account(self):
        for scheme, n in sized(schemes_of((3,), (("next",), ("count", "=", N))), (3, 5)):
            self.assertEqual(alike_of(scheme, n), alike_of(scheme_of(3, scheme.slot), n))
            self.assertEqual(window_of(scheme, n), window_of(scheme_of(3, scheme.slot), n))

    def test_the_example(self):
        scheme = Scheme.read("M = 2**3; slot rest; empty same; full diff = N; when refuse")
        self.assert_alike(scheme, 3, (6, 2))

    def test_a_modulus_of_one(self):
        for slot in ("rest", "off"):
            self.assert_alike(scheme_of(Form(0, 1), slot), 1, (0, 1))
            self.assert_alike(scheme_of(Form(0, 1), slot), GREATEST, (0, 1))

    def test_outside(self):
        self.assert_alike(scheme_of(Form(0, 3), "off"), 1, None)
        self.assert_alike(scheme_of(Form(0, 2), "off"), 1, (0, 1))
        self.assert_alike(scheme_of(Form(2, 1), "off"), GREATEST, None)
        self.assert_alike(scheme_of(100, "off"), 2 ** 99 - 1, None)

    def test_great_numbers(self):
        n, power, modulus = GREATEST, 2 ** 90, 2 ** 100
        self.assert_alike(scheme_of(N), n, (0, n))
        self.assert_alike(scheme_of(Form(4, 0)), n, (0, n))
        self.assert_alike(scheme_of(Form(1, -20)), n, (0, n - 20))
        self.assert_alike(scheme_of(Form(4, 20)), n, (4 * n, 20))
        self.assert_alike(scheme_of(Form(4, -20)), n, (3 * n, n - 20))
        self.assert_alike(scheme_of(100), n, (n, modulus - n))
        self.assert_alike(scheme_of(100), 3, (modulus - 1, 1))
        self.assert_alike(scheme_of(100), power, (0, power))
        self.assert_alike(scheme_of(Form(1, 20), "off"), n, (n, 20))
        self.assert_alike(scheme_of(Form(2, -1), "off"), n, (n, n - 1))
        self.assert_alike(scheme_of(Form(2, 0), "off"), n, (0, n))
        self.assert_alike(scheme_of(100, "off"), 2 ** 99, (0, 2 ** 99))
        for size, alike in ((power - 1, (0, 1)), (power, (0, power)), (power + 1, (0, 1)), (1, (0, 1)), (2, (0, 2)),
                            (3 * power, (0, power)), (n, (0, 2 ** 30)), (n - 1, (0, 1))):
            with self.subTest(size=size):
                self.assert_alike(scheme_of(100, "mask"), size, alike)

    def test_the_least_counter_of_several(self):
        self.assert_alike(scheme_of(Form(2, 3)), 5, (10, 3))
        self.assert_alike(scheme_of(Form(1, 2), "off"), 5, (5, 2))
        self.assert_alike(scheme_of(Form(2, 0), "off"), 5, (0, 5))
        for n in range(1, 130):
            self.assert_alike(scheme_of(7, "mask"), n, plain_alike(scheme_of(7, "mask"), n))

    def test_the_counter_has_the_gap(self):
        for wrap in (N, Form(1, 3), Form(2, -5), Form(3, 1), 100):
            for slot in ("rest", "off", "mask") if wrap == 100 else ("rest", "off"):
                scheme = scheme_of(wrap, slot)
                alike = alike_of(scheme, GREATEST)
                if alike is not None:
                    c, gap = alike
                    self.assertEqual(gap_of(scheme, GREATEST, c), gap)
                    behind = (c + gap) % modulus_of(scheme, GREATEST)
                    self.assertEqual(slot_of(scheme, GREATEST, c), slot_of(scheme, GREATEST, behind))

    def test_wrong_sizes(self):
        for call in (window_of, alike_of):
            for scheme in (scheme_of(N), scheme_of(5, "mask"), scheme_of(Form(0, 0)), scheme_of(Form(3, 0), "off")):
                for wrong in NO_SIZES:
                    with self.subTest(wrong=wrong):
                        self.assert_error(NoSize, call, scheme, wrong)
            for slot in ("rest", "off"):
                self.assert_error(NoRing, call, scheme_of(Form(1, -5), slot), 5)
                self.assert_error(NoRing, call, scheme_of(Form(0, -20), slot), GREATEST)
            self.assertIsNotNone(call(scheme=scheme_of(Form(1, -5)), n=6))
