"""Slots and rings: points 12, 13 and 14."""

from ringindexes.counters import Counter
from ringindexes.errors import NoRing, NoSize, Outside
from ringindexes.forms import Form
from ringindexes.rings import Ring, Slots, Tests
from ringindexes.schemes import Scheme
from tests.helpers import NO_INTEGERS, RingCase
from tests.models import DEEDS, N, OUTSIDE, PlainRing, scheme_of, small_schemes

MOST = 10 ** 4
NO_SIZES = NO_INTEGERS + [0, -1, MOST + 1, 10 ** 30, Form(0, 3), Counter(8, 3), Scheme.spare()]


def state(ring):
    """All that a ring tells of itself."""
    cells = [ring[k] for k in range(len(ring))]
    return [ring.put_at(), ring.take_at(), ring.number(), ring.has_note(), ring.is_empty(), ring.is_full(), cells]


def numbered(deeds):
    """Each deed with a value that it may put."""
    return [(deed, 100 + at) for at, deed in enumerate(deeds)]


def done(ring, deed, value):
    """What a deed answers; OUTSIDE for the error."""
    try:
        return ring.put(value) if deed == "p" else ring.take()
    except Outside:
        return OUTSIDE


def no_slots_of(n):
    return NO_INTEGERS + [-1, -n, n, n + 1, 10 ** 30, slice(0, 1), Counter(8, 1), Form(0, 1)]


class SlotsTest(RingCase):

    def test_new_slots_hold_nothing(self):
        for n in (1, 2, 10, MOST):
            slots = Slots(n)
            self.assert_integer(len(slots), n)
            self.assertEqual([slots[k] for k in range(n)], [None] * n)
        self.assertEqual(len(Slots(n=7)), 7)

    def test_what_is_laid_is_there(self):
        slots = Slots(4)
        for k in range(4):
            slots[k] = 10 + k
            self.assertEqual([slots[j] for j in range(4)], [10, 11, 12, 13][:k + 1] + [None] * (3 - k))
        slots[0] = None
        slots[3] = 5
        self.assertEqual([slots[j] for j in range(4)], [None, 11, 12, 5])

    def test_slots_do_not_share(self):
        one, other = Slots(2), Slots(2)
        one[0] = 1
        self.assertIsNone(other[0])

    def test_no_sizes(self):
        for wrong in NO_SIZES:
            with self.subTest(wrong=wrong):
                self.assert_error(NoSize, Slots, wrong)

    def test_outside(self):
        for n in (1, 3, MOST):
            slots = Slots(n)
            slots[n - 1] = 7
            for wrong in no_slots_of(n):
                with self.subTest(n=n, wrong=wrong):
                    self.assert_error(Outside, lambda: slots[wrong])
                    self.assert_error(Outside, slots.__setitem__, wrong, 9)
            self.assertEqual([slots[k] for k in range(n)], [None] * (n - 1) + [7])


class RingTest(RingCase):

    def test_deed_by_deed_beside_a_plain_model(self):
        for scheme, n in small_schemes():
            for deeds in DEEDS:
                ring, plain = Ring(scheme, n), PlainRing(scheme, n)
                wanted = [plain.state()] + [[plain.done(*deed), plain.state()] for deed in numbered(deeds)]
                found = [state(ring)] + [[done(ring, *deed), state(ring)] for deed in numbered(deeds)]
                self.assertEqual(found, wanted)

    def test_a_ring_is_true_if_it_is_not_empty(self):
        for scheme, n in small_schemes():
            ring = Ring(scheme, n)
            for deed in numbered("ptpppt"):
                self.assertIs(bool(ring), not ring.is_empty())
                done(ring, *deed)

    def test_a_ring_is_slots_with_tests(self):
        ring = Ring(scheme=scheme_of(N), n=3)
        self.assertEqual(Ring.__bases__, (Slots, Tests))
        self.assertIsInstance(ring, Slots)
        self.assertIsInstance(ring, Tests)
        self.assertEqual(len(ring), 3)

    def test_answers_are_true_and_false(self):
        for scheme in (Scheme.spare(), Scheme.doubled(), Scheme.counted(), Scheme.noted(), scheme_of(3)):
            ring = Ring(scheme, 2)
            found = [ring.is_empty(), ring.is_full(), ring.has_note(), bool(ring), ring.put(5)]
            found += [ring.is_empty(), ring.is_full(), ring.has_note(), bool(ring)]
            self.assertEqual([type(answer) for answer in found], [bool] * 9)
            for told in (ring.put_at(), ring.take_at(), ring.number(), len(ring)):
                self.assertIs(type(told), int)

    def test_a_ring_that_refuses(self):
        ring = Ring(Scheme.counted(), 2)
        self.assertIsNone(ring.take())
        self.assertEqual(ring.put_all(7, 8, 9), [True, True, False])
        self.assertEqual(state(ring), [0, 0, 2, True, False, True, [7, 8]])
        self.assertEqual([ring.take(), ring.put(value=9), ring.take(), ring.take(), ring.take()], [7, True, 8, 9, None])
        self.assertEqual(state(ring), [1, 1, 0, False, True, False, [9, 8]])

    def test_a_ring_that_drops(self):
        ring = Ring(Scheme.counted().remade(when="drop"), 2)
        self.assertEqual(ring.put_all(7, 8, 9), [True, True, True])
        self.assertEqual(state(ring), [1, 1, 2, True, False, True, [9, 8]])
        self.assertEqual([ring.take(), ring.take(), ring.take()], [8, 9, None])

    def test_a_ring_that_puts_over(self):
        ring = Ring(Scheme.counted().remade(when="over"), 2)
        self.assertEqual(ring.put_all(7, 8, 9), [True, True, True])
        self.assertEqual(state(ring), [1, 0, 3, True, False, False, [9, 8]])
        self.assertEqual([ring.take(), ring.take(), ring.take(), ring.take()], [9, 8, 9, None])

    def test_the_number_may_go_below_zero(self):
        ring = Ring(scheme_of(N, empty="note", full=("diff", "=", Form(0, 0)), when="drop"), 3)
        self.assertIs(ring.put(7), True)
        self.assertEqual(state(ring), [1, 1, 0, True, False, True, [7, None, None]])
        self.assertIsNone(ring.take())
        self.assertEqual(state(ring), [1, 2, -1, False, False, False, [7, None, None]])

    def test_put_all(self):
        ring = Ring(Scheme.doubled(), 3)
        self.assertEqual(ring.put_all(), [])
        self.assertEqual(ring.put_all(4), [True])
        answers = ring.put_all(5, 6, 7, 8)
        self.assertEqual(answers, [True, True, False, False])
        answers.clear()
        self.assertEqual(state(ring)[0:3] + [ring.put_all(9)], [3, 0, 3, [False]])

    def test_put_all_up_to_an_outside_slot(self):
        scheme = scheme_of(Form(3, 0), "off", "count", ("count", "=", Form(4, 20)))
        ring = Ring(scheme, 2)
        self.assert_error(Outside, ring.put_all, 1, 2, 3, 4, 5, 6)
        self.assertEqual(state(ring), [4, 0, 4, True, False, False, [3, 4]])
        self.assert_error(Outside, ring.put, 5)
        self.assert_error(Outside, ring.put_all, 5)
        self.assertEqual(state(ring), [4, 0, 4, True, False, False, [3, 4]])
        self.assertEqual([ring.take(), ring.take()], [3, 4])

    def test_outside_changes_nothing(self):
        scheme = scheme_of(Form(0, 3), "off", "note", ("diff", "=", Form(0, 0)), "drop")
        ring = Ring(scheme, 1)
        self.assertEqual(ring.put_all(1, 2), [True, True])
        before = state(ring)
        self.assertEqual(before, [2, 2, 0, True, False, True, [2]])
        self.assert_error(Outside, ring.put, 3)
        self.assert_error(Outside, ring.take)
        self.assertEqual(state(ring), before)

    def test_empty_and_full_come_before_outside(self):
        scheme = scheme_of(Form(0, 3), "off", "same", ("diff", "=", Form(0, 2)))
        ring = Ring(scheme, 1)
        self.assertEqual(ring.put_all(1, 2, 3), [True, True, False])
        self.assertEqual([ring.take(), ring.take(), ring.take()], [2, 2, None])

    def test_slots_of_a_ring(self):
        ring = Ring(Scheme.counted(), 3)
        ring.put(4)
        self.assertEqual(ring[0], 4)
        ring[0] = 6
        ring[2] = 8
        self.assertEqual(state(ring), [1, 0, 1, True, False, False, [6, None, 8]])
        self.assertEqual(ring.take(), 6)
        for wrong in no_slots_of(3):
            self.assert_error(Outside, lambda: ring[wrong])
            self.assert_error(Outside, ring.__setitem__, wrong, 9)
        self.assertEqual(state(ring), [1, 1, 0, False, True, False, [6, None, 8]])

    def test_limits_below_zero_and_beyond_the_modulus(self):
        for kind in ("diff", "count"):
            self.assertEqual(Ring(scheme_of(N, full=(kind, "=", Form(0, -1))), 3).put_all(1, 2, 3, 4), [True] * 4)
            self.assertEqual(Ring(scheme_of(N, full=(kind, ">=", Form(0, -1))), 3).put_all(1, 2), [False] * 2)
            self.assertEqual(Ring(scheme_of(N, full=(kind, ">=", Form(0, 0))), 3).put_all(1, 2), [False] * 2)
        self.assertEqual(Ring(scheme_of(N, full=("diff", ">=", Form(1, 0))), 3).put_all(*range(9)), [True] * 9)
        self.assertEqual(Ring(scheme_of(N, full=("diff", ">=", Form(1, -1))), 3).put_all(*range(9)),
                         [True] * 2 + [False] * 7)
        self.assertEqual(Ring(scheme_of(N, full=("count", ">=", Form(2, 1))), 3).put_all(*range(9)),
                         [True] * 7 + [False] * 2)

    def test_a_modulus_of_one(self):
        ring = Ring(scheme_of(Form(0, 1), full=("note",), empty="note"), 5)
        self.assertEqual(state(ring), [0, 0, 0, False, True, False, [None] * 5])
        self.assertEqual(ring.put_all(3, 4), [True, False])
        self.assertEqual(state(ring), [0, 0, 1, True, False, True, [3, None, None, None, None]])
        self.assertEqual([ring.take(), ring.take()], [3, None])
        self.assertIs(Ring(scheme_of(Form(0, 1)), 5).is_full(), True)

    def test_sizes(self):
        for n in (1, MOST):
            ring = Ring(Scheme.counted(), n)
            self.assertEqual([len(ring), ring.put(1), ring.number()], [n, True, 1])
        great = Ring(Scheme.masked(100), MOST)
        self.assertEqual([great.put(1), great.put_at(), great[0]], [True, 1, 1])

    def test_no_sizes(self):
        for wrong in NO_SIZES:
            with self.subTest(wrong=wrong):
                self.assert_error(NoSize, Ring, Scheme.spare(), wrong)
                self.assert_error(NoSize, Ring, scheme_of(Form(0, 0)), wrong)

    def test_no_ring(self):
        for wrap, n in ((Form(0, 0), 1), (Form(0, -20), MOST), (Form(1, -5), 5), (Form(4, -20), 5)):
            self.assert_error(NoRing, Ring, scheme_of(wrap), n)
        self.assertEqual(len(Ring(scheme_of(Form(1, -5)), 6)), 6)

    def test_the_parts_are_kept(self):
        scheme = scheme_of(Form(2, 0), "off", "same", ("diff", "=", N))
        ring, plain = Ring(scheme, 2), PlainRing(scheme.remade(), 2)
        scheme.wrap, scheme.slot, scheme.empty = 1, "mask", "note"
        scheme.full, scheme.when = ("diff", "=", Form(0, 0)), "drop"
        for deed in numbered("pppttppptttpp"):
            self.assertEqual([done(ring, *deed), state(ring)], [plain.done(*deed), plain.state()])
