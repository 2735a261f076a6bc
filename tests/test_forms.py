"""Forms and their texts: points 4 and 5."""

from itertools import product

from ringindexes.counters import Counter
from ringindexes.errors import NoForm, NoSize
from ringindexes.forms import Form, show_form
from ringindexes.schemes import Scheme
from tests.helpers import NO_INTEGERS, RingCase

GREATEST = 10 ** 30
SMALL = range(-3, 4)
PAIRS = [(slope, base) for slope in SMALL for base in SMALL]


def parts(form):
    return form.slope, form.base


class FormTest(RingCase):

    def assert_form(self, form, slope, base):
        self.assertIs(type(form), Form)
        self.assert_integer(form.slope, slope)
        self.assert_integer(form.base, base)

    def test_attributes(self):
        self.assert_form(Form(2, -3), 2, -3)
        self.assert_form(Form(slope=0, base=10 ** 80), 0, 10 ** 80)
        self.assert_form(Form(base=4, slope=-(10 ** 80)), -(10 ** 80), 4)

    def test_slope_and_base_are_integers(self):
        for wrong in NO_INTEGERS + [Form(1, 0), Counter(3, 1), Scheme.spare()]:
            with self.subTest(wrong=wrong):
                self.assert_error(NoForm, Form, wrong, 0)
                self.assert_error(NoForm, Form, 0, wrong)
                self.assert_error(NoForm, Form, wrong, wrong)

    def test_values(self):
        for slope, base in PAIRS:
            for n in (1, 2, 3, 10, GREATEST - 1, GREATEST):
                self.assert_integer(Form(slope, base)(n), slope * n + base)
        self.assertEqual(Form(2, 1)(n=5), 11)

    def test_values_only_at_sizes(self):
        wrong = [0, -1, -GREATEST, GREATEST + 1, 10 ** 40, Form(0, 1), Counter(3, 1), Scheme.spare()]
        for n in NO_INTEGERS + wrong:
            with self.subTest(n=n):
                self.assert_error(NoSize, Form(1, 0), n)

    def test_sums_and_differences_of_forms(self):
        for (slope, base), (other_slope, other_base) in product(PAIRS, PAIRS):
            one, other = Form(slope, base), Form(other_slope, other_base)
            self.assert_form(one + other, slope + other_slope, base + other_base)
            self.assert_form(one - other, slope - other_slope, base - other_base)

    def test_integers_on_either_side(self):
        for (slope, base), k in product(PAIRS, [*SMALL, 10 ** 45]):
            form = Form(slope, base)
            self.assert_form(form + k, slope, base + k)
            self.assert_form(k + form, slope, base + k)
            self.assert_form(form - k, slope, base - k)
            self.assert_form(k - form, -slope, k - base)
            self.assert_form(form * k, slope * k, base * k)
            self.assert_form(k * form, slope * k, base * k)

    def test_negatives(self):
        for slope, base in PAIRS:
            self.assert_form(-Form(slope, base), -slope, -base)

    def test_results_are_new_forms(self):
        form, other = Form(2, 3), Form(1, 1)
        for made in (form + 0, 0 + form, form - 0, form * 1, 1 * form, form + other, form - other, -form):
            self.assertIsNot(made, form)
            self.assertIsNot(made, other)
        self.assertEqual([parts(form), parts(other)], [(2, 3), (1, 1)])

    def test_augmented_signs_leave_the_old_form(self):
        form = Form(2, 3)
        second_name = form
        form += 4
        form -= Form(1, 0)
        form *= 2
        self.assertEqual([parts(form), parts(second_name)], [(2, 14), (2, 3)])

    def test_other_objects_beside_the_signs(self):
        form = Form(2, 3)
        calls = (lambda x: form + x, lambda x: x + form, lambda x: form - x,
                 lambda x: x - form, lambda x: form * x, lambda x: x * form)
        for wrong in NO_INTEGERS + [Scheme.spare()]:
            for number, call in enumerate(calls):
                with self.subTest(wrong=wrong, call=number):
                    self.assert_error(NoForm, call, wrong)
        self.assertEqual(parts(form), (2, 3))

    def test_a_form_times_a_form(self):
        self.assert_error(NoForm, lambda: Form(2, 3) * Form(1, 1))
        self.assert_error(NoForm, lambda: Form(2, 3) * Form(0, 2))
        self.assert_error(NoForm, lambda: Form(0, 2) * Form(2, 3))

    def test_order(self):
        for one, other in product(PAIRS, PAIRS):
            first, second = Form(*one), Form(*other)
            self.assertIs(first < second, one < other)
            self.assertIs(first <= second, one <= other)
            self.assertIs(first > second, one > other)
            self.assertIs(first >= second, one >= other)
            self.assertIs(first == second, one == other)
            self.assertIs(first != second, one != other)

    def test_order_is_that_of_late_values(self):
        for one, other in product(PAIRS, PAIRS):
            first, second = Form(*one), Form(*other)
            self.assertEqual(first < second, first(1000) < second(1000))

    def test_order_beyond_all_sizes(self):
        self.assertIs(Form(0, 10 ** 60) < Form(1, 0), True)
        self.assertIs(Form(1, -(10 ** 60)) > Form(0, 10 ** 60), True)

    def test_order_beside_other_objects(self):
        form = Form(0, 1)
        calls = (lambda x: form < x, lambda x: form <= x, lambda x: form > x, lambda x: form >= x,
                 lambda x: x < form, lambda x: x <= form, lambda x: x > form, lambda x: x >= form)
        for wrong in NO_INTEGERS + [0, 1, 2, Scheme.spare()]:
            for number, call in enumerate(calls):
                with self.subTest(wrong=wrong, call=number):
                    self.assert_error(NoForm, call, wrong)

    def test_never_equal_to_other_objects(self):
        for other in NO_INTEGERS + [0, 1, "0", (0, 1), [0, 1], Scheme.spare()]:
            self.assertIs(Form(0, 1) == other, False)
            self.assertIs(other == Form(0, 1), False)
            self.assertIs(Form(0, 1) != other, True)


TEXTS = [
    (0, 0, "0"), (0, 7, "7"), (0, -7, "-7"), (0, 10, "10"), (0, 1, "1"), (0, -1, "-1"),
    (1, 0, "N"), (-1, 0, "-N"), (5, 0, "5*N"), (-5, 0, "-5*N"), (2, 0, "2*N"), (-2, 0, "-2*N"), (10, 0, "10*N"),
    (1, 3, "N + 3"), (1, -3, "N - 3"), (-1, 3, "-N + 3"), (-1, -3, "-N - 3"),
    (5, 3, "5*N + 3"), (5, -3, "5*N - 3"), (-5, 3, "-5*N + 3"), (-5, -3, "-5*N - 3"),
    (1, 1, "N + 1"), (1, -1, "N - 1"), (100, -200, "100*N - 200"),
]

NO_TEXTS = [
    "", " ", "n", "M", "NN", "N*N", "*N", "-*N", "N*5", "5N", "5 * N", "5* N", "5 *N", "5**N",
    "1*N", "-1*N", "0*N", "-0*N", "0*N + 3", "1*N + 3", "-0", "+0", "+7", "+N", "--N", "--7", "+-7", "+5*N",
    "00", "07", "-07", "05*N", "-05*N", "N + 03", "N - 03", "5*N + 00",
    "N + 0", "N - 0", "5*N + 0", "N + -3", "N - -3", "N + +3", "N - +3", "N +-3", "N -+3",
    "N+3", "N-3", "N +3", "N+ 3", "N  + 3", "N +  3", " N", "N ", " 7", "7 ", "- 7", "- N", "N + 3 ", " N + 3",
    "N + ", "N +", "N -", "N + N", "N + 3 + 4", "N + 3 - 4", "N * 3", "N / 3", "N , 3", "N 3", "7 + 3", "7 - 3",
    "7 + N", "3 + N", "0 + 3", "0 - 3", "N + 3*N", "N + x", "x + 3", "N + 3.0", "7.0", "1e3", "0x7", "1_0",
    "N + 1_0", "1_0*N", "2*n", "2*N+", "(N)", "N + 3;", "None", "True",
]


class FormTextTest(RingCase):

    def test_texts_are_written(self):
        for slope, base, text in TEXTS:
            self.assertEqual(show_form(Form(slope, base)), text)
        self.assertEqual(show_form(form=Form(1, 1)), "N + 1")

    def test_texts_are_read(self):
        for slope, base, text in TEXTS:
            form = Form.read(text)
            self.assertIs(type(form), Form)
            self.assertEqual((form.slope, form.base), (slope, base))
        self.assertEqual(parts(Form.read(text="N + 1")), (1, 1))

    def test_texts_are_read_back(self):
        numbers = [-(10 ** 40 - 1), -(10 ** 39), -12, -2, -1, 0, 1, 2, 10, 10 ** 20, 10 ** 39, 10 ** 40 - 1]
        for slope, base in product(numbers, numbers):
            form = Form(slope, base)
            self.assertEqual(parts(Form.read(show_form(form))), (slope, base))

    def test_forty_digits_are_read_and_no_more(self):
        forty, more = "9" * 40, "1" + "0" * 40
        self.assertEqual(Form.read(forty), Form(0, 10 ** 40 - 1))
        self.assertEqual(Form.read("-" + forty), Form(0, 1 - 10 ** 40))
        self.assertEqual(Form.read(f"{forty}*N - {forty}"), Form(10 ** 40 - 1, 1 - 10 ** 40))
        self.assertEqual(Form.read(f"-{forty}*N + {forty}"), Form(1 - 10 ** 40, 10 ** 40 - 1))
        for text in (more, "-" + more, f"{more}*N", f"-{more}*N", f"N + {more}", f"N - {more}", f"{more}*N + 1"):
            with self.subTest(text):
                self.assert_error(NoForm, Form.read, text)

    def test_long_texts(self):
        for text in ("9" * 5900, "-" + "9" * 5900, "9" * 5900 + "*N", "N + " + "9" * 5900, "0" * 5900):
            self.assert_error(NoForm, Form.read, text)

    def test_more_than_forty_digits_are_written(self):
        self.assertEqual(show_form(Form(10 ** 41, -(10 ** 41))), "1" + "0" * 41 + "*N - 1" + "0" * 41)

    def test_texts_that_are_almost_right(self):
        for text in NO_TEXTS:
            with self.subTest(text):
                self.assert_error(NoForm, Form.read, text)

    def test_objects_that_are_no_texts(self):
        for wrong in [True, False, None, 0, 7, b"N", ["N"], ("N",), {}, Form(1, 0), Counter(3, 1), Scheme.spare()]:
            with self.subTest(wrong=wrong):
                self.assert_error(NoForm, Form.read, wrong)
