"""Counters: point 6."""

from ringindexes.counters import Counter
from ringindexes.errors import NoCounter
from ringindexes.schemes import Scheme
from tests.helpers import NO_INTEGERS, RingCase

GREATEST = 10 ** 40
MODULI = (1, 2, 3, 8)
STEPS = [*range(-9, 10), 10 ** 60, -(10 ** 60)]


class CounterTest(RingCase):

    def assert_counter(self, counter, modulus, value):
        self.assertIs(type(counter), Counter)
        self.assert_integer(counter.modulus, modulus)
        self.assert_integer(counter.value, value)

    def test_made(self):
        self.assert_counter(Counter(8), 8, 0)
        self.assert_counter(Counter(8, 7), 8, 7)
        self.assert_counter(Counter(value=3, modulus=5), 5, 3)
        self.assert_counter(Counter(1), 1, 0)
        self.assert_counter(Counter(GREATEST, GREATEST - 1), GREATEST, GREATEST - 1)

    def test_the_value_is_taken_modulo_the_modulus(self):
        for modulus in MODULI:
            for value in STEPS:
                self.assert_counter(Counter(modulus, value), modulus, value % modulus)
        self.assert_counter(Counter(GREATEST, GREATEST), GREATEST, 0)
        self.assert_counter(Counter(GREATEST, -1), GREATEST, GREATEST - 1)

    def test_moduli_that_are_none(self):
        for wrong in NO_INTEGERS + [0, -1, GREATEST + 1, -GREATEST, Counter(8, 3), Scheme.spare()]:
            with self.subTest(wrong=wrong):
                self.assert_error(NoCounter, Counter, wrong)
                self.assert_error(NoCounter, Counter, wrong, 1)

    def test_values_that_are_none(self):
        for wrong in NO_INTEGERS + [Counter(8, 3), Scheme.spare()]:
            with self.subTest(wrong=wrong):
                self.assert_error(NoCounter, Counter, 8, wrong)

    def test_steps_make_new_counters(self):
        for modulus in MODULI:
            for value in range(modulus):
                for k in STEPS:
                    counter = Counter(modulus, value)
                    self.assert_counter(counter + k, modulus, (value + k) % modulus)
                    self.assert_counter(k + counter, modulus, (value + k) % modulus)
                    self.assert_counter(counter - k, modulus, (value - k) % modulus)
                    self.assert_counter(counter, modulus, value)
        counter = Counter(8, 3)
        for made in (counter + 0, 0 + counter, counter - 0):
            self.assertIsNot(made, counter)

    def test_great_steps(self):
        counter = Counter(GREATEST, GREATEST - 1)
        self.assertEqual((counter + 1).value, 0)
        self.assertEqual((1 + counter).value, 0)
        self.assertEqual((Counter(GREATEST) - 1).value, GREATEST - 1)
        self.assertEqual(Counter(GREATEST) - Counter(GREATEST, 1), GREATEST - 1)

    def test_distances(self):
        for modulus in MODULI:
            for value in range(modulus):
                for other in range(modulus):
                    found = Counter(modulus, value) - Counter(modulus, other)
                    self.assert_integer(found, (value - other) % modulus)
        counter = Counter(5, 3)
        self.assertEqual(counter - counter, 0)

    def test_distances_only_beside_the_same_modulus(self):
        self.assert_error(NoCounter, lambda: Counter(8, 3) - Counter(9, 3))
        self.assert_error(NoCounter, lambda: Counter(8, 3) - Counter(4, 3))
        self.assert_error(NoCounter, lambda: Counter(8, 3) - Counter(16, 3))

    def test_steps_in_place_are_seen_by_a_second_name(self):
        for modulus in MODULI:
            for k in STEPS:
                counter = Counter(modulus, 2)
                second_name = counter
                counter += k
                self.assertIs(counter, second_name)
                self.assert_counter(second_name, modulus, (2 + k) % modulus)
                counter -= 3 * k
                self.assertIs(counter, second_name)
                self.assert_counter(second_name, modulus, (2 - 2 * k) % modulus)

    def test_remainders_quotients_and_masks(self):
        for value in range(12):
            counter = Counter(12, value)
            for n in (1, 2, 3, 5, 12, 13, 10 ** 45):
                self.assert_integer(counter % n, value % n)
                self.assert_integer(counter // n, value // n)
            for mask in (0, 1, 2, 3, 6, 8, 15, 2 ** 140):
                self.assert_integer(counter & mask, value & mask)
            self.assert_counter(counter, 12, value)
        great = Counter(GREATEST, GREATEST - 1)
        self.assertEqual([great % 10 ** 20, great // 10 ** 20, great & 1], [10 ** 20 - 1, 10 ** 20 - 1, 1])

    def test_remainders_and_quotients_from_one_on(self):
        for wrong in NO_INTEGERS + [0, -1, -8, Counter(8, 3), Counter(9, 3), Scheme.spare()]:
            with self.subTest(wrong=wrong):
                self.assert_error(NoCounter, lambda: Counter(8, 3) % wrong)
                self.assert_error(NoCounter, lambda: Counter(8, 3) // wrong)

    def test_masks_from_zero_on(self):
        for wrong in NO_INTEGERS + [-1, -8, Counter(8, 3), Counter(9, 3), Scheme.spare()]:
            with self.subTest(wrong=wrong):
                self.assert_error(NoCounter, lambda: Counter(8, 3) & wrong)

    def test_other_objects_behind_steps_and_ahead_of_plus(self):
        for wrong in NO_INTEGERS + [Scheme.spare()]:
            with self.subTest(wrong=wrong):
                self.assert_error(NoCounter, lambda: Counter(8, 3) + wrong)
                self.assert_error(NoCounter, lambda: wrong + Counter(8, 3))
                self.assert_error(NoCounter, lambda: Counter(8, 3) - wrong)
        self.assert_error(NoCounter, lambda: Counter(8, 3) + Counter(8, 1))

    def test_other_objects_behind_steps_in_place(self):
        for wrong in NO_INTEGERS + [Counter(8, 1), Counter(9, 1), Scheme.spare()]:
            with self.subTest(wrong=wrong):
                counter = Counter(8, 3)
                self.assert_error(NoCounter, counter.__iadd__, wrong)
                self.assert_error(NoCounter, counter.__isub__, wrong)
                self.assertEqual((counter.modulus, counter.value), (8, 3))

    def test_in_place_by_the_signs(self):
        counter = second_name = Counter(8, 3)
        with self.assertRaises(NoCounter):
            counter += "1"
        with self.assertRaises(NoCounter):
            counter -= Counter(8, 1)
        self.assertIs(counter, second_name)
        self.assertEqual(second_name.value, 3)

    def test_the_value_is_assigned(self):
        counter = Counter(8, 3)
        for value in range(8):
            counter.value = value
            self.assert_counter(counter, 8, value)
            self.assertIsNone(counter.change(7 - value))
            self.assert_counter(counter, 8, 7 - value)
        counter.change(value=5)
        self.assertEqual(counter.value, 5)
        great = Counter(GREATEST)
        great.value = GREATEST - 1
        self.assertEqual(great.value, GREATEST - 1)

    def test_values_that_are_not_assigned(self):
        for wrong in NO_INTEGERS + [-1, 8, 11, 10 ** 40, Counter(8, 1), Scheme.spare()]:
            with self.subTest(wrong=wrong):
                counter = Counter(8, 3)
                self.assert_error(NoCounter, counter.change, wrong)
                self.assert_error(NoCounter, setattr, counter, "value", wrong)
                self.assertEqual((counter.modulus, counter.value), (8, 3))
        only = Counter(1)
        only.value = 0
        self.assert_error(NoCounter, only.change, 1)

    def test_equality(self):
        for modulus in MODULI:
            for other_modulus in MODULI:
                for value in range(modulus):
                    for other in range(other_modulus):
                        wanted = (modulus, value) == (other_modulus, other)
                        self.assertIs(Counter(modulus, value) == Counter(other_modulus, other), wanted)
                        self.assertIs(Counter(modulus, value) != Counter(other_modulus, other), not wanted)

    def test_never_equal_to_other_objects(self):
        for other in NO_INTEGERS + [3, 8, (8, 3), [8, 3], Scheme.spare()]:
            self.assertIs(Counter(8, 3) == other, False)
            self.assertIs(other == Counter(8, 3), False)
            self.assertIs(Counter(8, 3) != other, True)
