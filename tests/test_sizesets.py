"""Sets of sizes: points 23 and 24."""

from itertools import islice, product

from ringindexes.counters import Counter
from ringindexes.errors import NoSet, TooLong
from ringindexes.forms import Form
from ringindexes.schemes import Scheme
from ringindexes.sizesets import SizeSet
from tests.helpers import NO_INTEGERS, RingCase

GREATEST = 10 ** 30
BOUND = 60
NO_NUMBERS = NO_INTEGERS + [Form(0, 3), Counter(8, 3), Scheme.spare()]
NO_LISTS = [True, False, None, "", "12", 1, (), (1,), (1, 2), {}, {1: 1}, range(1, 3), set(), object(), Form(0, 1)]
NO_SETS = NO_LISTS + [[], [1, 2], list, SizeSet, Counter(8, 3), Scheme.spare()]


def subsets(numbers):
    """The ascending lists of some of these numbers."""
    return [[n for n, kept in zip(numbers, marks) if kept] for marks in product((False, True), repeat=len(numbers))]


def small_parts():
    """The parts of all small sets."""
    for start, period in product(range(1, 5), range(1, 5)):
        for early, rests in product(subsets(range(1, start)), subsets(range(period))):
            yield early, start, period, rests


def plain_numbers(early, start, period, rests, bound=BOUND):
    """The plain list of the numbers below a bound."""
    return [n for n in range(1, bound) if (n in early if n < start else n % period in rests)]


def parts_of(sizes):
    return sizes.early, sizes.start, sizes.period, sizes.rests


class SizeSetTest(RingCase):

    def assert_shortest(self, sizes, numbers):
        """No lesser period, and with it no lesser start, holds the same numbers."""
        early, start, period, rests = parts_of(sizes)
        self.assertEqual(plain_numbers(early, start, period, rests), numbers)
        marks = [n in numbers for n in range(BOUND)]
        for lesser in range(1, period):
            self.assertNotEqual(marks[BOUND // 2:-lesser], marks[BOUND // 2 + lesser:])
        if start > 1:
            self.assertNotEqual(marks[start - 1], marks[start - 1 + period])

    def assert_numbers(self, sizes, numbers):
        """All that a set tells of its numbers below the bound."""
        self.assertEqual([n for n in range(-3, BOUND) if n in sizes], numbers)
        self.assertEqual(list(sizes.below(BOUND)), numbers)
        self.assertIs(bool(sizes), len(numbers) > 0)
        self.assertEqual(sizes.least(), numbers[0] if numbers else None)

    def test_all_small_sets_beside_plain_lists(self):
        for parts in small_parts():
            with self.subTest(parts=parts):
                sizes, numbers = SizeSet(*parts), plain_numbers(*parts)
                self.assert_numbers(sizes, numbers)
                self.assert_shortest(sizes, numbers)

    def test_pairs_of_small_sets_beside_plain_lists(self):
        sets = [(SizeSet(*parts), plain_numbers(*parts)) for parts in list(small_parts())[::6]]
        for (one, numbers), (other, others) in product(sets, sets):
            both = [n for n in numbers if n in others]
            self.assert_numbers(one & other, both)
            self.assert_shortest(one & other, both)
            either = sorted({*numbers, *others})
            self.assert_numbers(one | other, either)
            self.assert_shortest(one | other, either)
            self.assertIs(one <= other, both == numbers)
            self.assertIs(one == other, numbers == others)
            self.assertIs(one != other, numbers != others)

    def test_operators_change_nothing(self):
        one, other = SizeSet([1, 3], 5, 2, [0]), SizeSet([2], 4, 3, [1, 2])
        told = [parts_of(one), parts_of(other)]
        self.assertEqual([type(one & other), type(one | other)], [SizeSet, SizeSet])
        one <= other, one == other, list(one.below(9)), 3 in one
        self.assertEqual([parts_of(one), parts_of(other)], told)

    def test_greater_sets_beside_plain_lists(self):
        made = []
        for start, period, step in ((50, 12, 5), (7, 30, 4), (33, 18, 6), (100, 1, 3), (20, 24, 7)):
            parts = ([n for n in range(1, start) if n % step == 1], start, period, list(range(0, period, step)))
            made.append((SizeSet(*parts), plain_numbers(*parts, bound=1500)))
        for (one, numbers), (other, others) in product(made, made):
            self.assertEqual(list((one & other).below(1500)), [n for n in numbers if n in others])
            self.assertEqual(list((one | other).below(1500)), sorted({*numbers, *others}))
            self.assertIs(one <= other, set(numbers) <= set(others))

    def test_the_shortest_form(self):
        for parts, shorter in ((([], 9, 4, [0, 2]), ([], 9, 2, [0])),
                               (([2, 4, 6, 8], 9, 4, [0, 2]), ([], 1, 2, [0])),
                               (([1, 2, 4, 6, 8], 9, 4, [0, 2]), ([1], 2, 2, [0])),
                               (([], 20, 5000, []), ([], 1, 1, [])),
                               (([1, 2, 3], 4, 6, [0, 1, 2, 3, 4, 5]), ([], 1, 1, [0])),
                               (([1, 2, 4, 8], 16, 3, []), ([1, 2, 4, 8], 9, 1, [])),
                               (([3], 4, 6, [1, 4]), ([3], 4, 3, [1])),
                               (([1], 4, 6, [1, 4]), ([], 1, 3, [1]))):
            sizes = SizeSet(*parts)
            self.assertEqual(parts_of(sizes), shorter)
            self.assertEqual([type(part) for part in parts_of(sizes)], [list, int, int, list])
            self.assertEqual(sizes, SizeSet(*shorter))

    def test_no_numbers_and_all(self):
        none, full = SizeSet.none(), SizeSet.full_set()
        self.assertEqual([parts_of(none), parts_of(full)], [([], 1, 1, []), ([], 1, 1, [0])])
        self.assert_numbers(none, [])
        self.assert_numbers(full, list(range(1, BOUND)))
        self.assertEqual([none.least(), full.least(), bool(none), bool(full)], [None, 1, False, True])
        self.assertEqual([GREATEST ** 2 in none, GREATEST ** 2 in full], [False, True])
        self.assertEqual([none <= full, full <= none, none <= none, full <= full], [True, False, True, True])
        self.assertEqual([none & full, none | full], [none, full])
        self.assertNotEqual(none, full)

    def test_greatest_starts_and_periods(self):
        sizes = SizeSet([19999], 20000, 5000, [4999])
        self.assertEqual(parts_of(sizes), ([], 15000, 5000, [4999]))
        sizes = SizeSet([19998], 20000, 5000, [4999])
        self.assertEqual(parts_of(sizes), ([19998], 20000, 5000, [4999]))
        self.assertEqual([19998 in sizes, 19999 in sizes, 24999 in sizes, 24998 in sizes], [True, False, True, False])
        self.assertEqual(list(islice(sizes.below(GREATEST), 3)), [19998, 24999, 29999])
        self.assertEqual(parts_of(SizeSet([], 1, 5000, [0, 2500])), ([], 1, 2500, [0]))
        full = SizeSet(list(range(1, 20000)), 20000, 5000, list(range(5000)))
        self.assertEqual(full, SizeSet.full_set())
        self.assertEqual(parts_of(SizeSet(early=[], start=1, period=1, rests=[])), ([], 1, 1, []))

    def test_great_members(self):
        sizes = SizeSet([1], 5, 7, [3, 4])
        for n in (GREATEST, 10 ** 40, 10 ** 80):
            self.assertEqual([k in sizes for k in range(n, n + 14)], [k % 7 in (3, 4) for k in range(n, n + 14)])
            self.assertIs(-n in sizes, False)

    def test_other_objects_are_not_in_a_set(self):
        for other in NO_NUMBERS + [SizeSet.none(), SizeSet.full_set()]:
            with self.subTest(other=other):
                self.assertIs(other in SizeSet.full_set(), False)
                self.assertIs(other in SizeSet([1], 2, 1, [0]), False)
        self.assertIs(True in SizeSet([1], 2, 1, []), False)
        self.assertIs(0 in SizeSet.full_set(), False)

    def test_below(self):
        sizes = SizeSet([2], 5, 3, [0, 1])
        self.assertEqual({k: list(sizes.below(k)) for k in (-5, 0, 1, 2, 3, 6, 7, 8)},
                         {-5: [], 0: [], 1: [], 2: [], 3: [2], 6: [2], 7: [2, 6], 8: [2, 6, 7]})
        self.assertEqual(list(SizeSet([1, 7], 20, 1, []).below(GREATEST)), [1, 7])
        self.assertEqual(list(SizeSet.none().below(10 ** 80)), [])
        self.assertEqual(list(islice(SizeSet.full_set().below(bound=10 ** 80), 4)), [1, 2, 3, 4])
        for number in sizes.below(100):
            self.assertIs(type(number), int)

    def test_least(self):
        self.assert_integer(SizeSet([], 5, 4, [3]).least(), 7)
        self.assert_integer(SizeSet([], 5, 4, [0]).least(), 8)
        self.assert_integer(SizeSet([3], 5, 4, [0]).least(), 3)
        self.assert_integer(SizeSet([], 20000, 5000, [4999]).least(), 24999)

    def test_lists_are_the_askers_own(self):
        early, rests = [1, 3], [0, 1]
        sizes = SizeSet(early, 5, 3, rests)
        early.append(4), rests.append(2)
        sizes.early.append(2)
        sizes.rests.clear()
        self.assertEqual(parts_of(sizes), ([1, 3], 5, 3, [0, 1]))
        self.assertEqual([n for n in range(9) if n in sizes], [1, 3, 6, 7])

    def test_common_multiples_of_the_periods(self):
        def odd(period):
            return SizeSet([], 1, period, [1])
        for one, other, common in ((625, 8, 5000), (8, 625, 5000), (5000, 2500, 5000), (5000, 5000, 5000)):
            self.assertEqual((odd(one) & odd(other)).period, common)
            self.assertEqual((odd(one) | odd(other)).period, common if one % other and other % one else min(one, other))
            self.assertIs(odd(one) <= odd(other), one % other == 0)
        for one, other in ((5000, 3), (71, 72), (3, 5000), (2500, 16), (1667, 3)):
            for call in (SizeSet.__and__, SizeSet.__or__, SizeSet.__le__):
                self.assert_error(TooLong, call, odd(one), odd(other))
            self.assertIs(odd(one) == odd(other), False)
        # The periods are those of the shortest forms.
        self.assertEqual((SizeSet([], 1, 5000, [0, 2500]) & SizeSet([], 1, 4, [0])).period, 2500)

    def test_other_objects_beside_operators(self):
        sizes = SizeSet([1], 5, 7, [3])
        for other in NO_SETS:
            with self.subTest(other=other):
                for call in (SizeSet.__and__, SizeSet.__or__, SizeSet.__le__):
                    self.assert_error(NoSet, call, sizes, other)
                self.assertIs(sizes == other, False)
                self.assertIs(sizes != other, True)

    def test_parts_that_are_none(self):
        for wrong in NO_NUMBERS + [0, -1, 20001, GREATEST]:
            with self.subTest(start=wrong):
                self.assert_error(NoSet, SizeSet, [], wrong, 1, [])
        for wrong in NO_NUMBERS + [0, -1, 5001, GREATEST]:
            with self.subTest(period=wrong):
                self.assert_error(NoSet, SizeSet, [], 1, wrong, [])
        for wrong in NO_LISTS + [[0], [5], [2, 1], [2, 2], [-1], [1, 3, 2], [True], [None], ["1"], [(1,)], [[1]],
                                 [1, True], [Form(0, 1)], [GREATEST]]:
            with self.subTest(early=wrong):
                self.assert_error(NoSet, SizeSet, wrong, 5, 1, [])
        for wrong in NO_LISTS + [[5], [-1], [1, 0], [2, 2], [False], [True], [0, True], [None], ["1"], [(1,)],
                                 [Form(0, 1)]]:
            with self.subTest(rests=wrong):
                self.assert_error(NoSet, SizeSet, [], 1, 5, wrong)
        self.assert_error(NoSet, SizeSet, [1], 1, 1, [])
        self.assert_error(NoSet, SizeSet, [], 1, 1, [1])
        self.assertEqual(parts_of(SizeSet([4], 5, 5, [0, 4])), ([], 1, 5, [0, 4]))
