"""Watches: point 16."""

from ringindexes.counters import Counter
from ringindexes.errors import NoRing, NoSize
from ringindexes.forms import Form
from ringindexes.queues import Watch
from ringindexes.schemes import Scheme
from tests.helpers import NO_INTEGERS, RingCase
from tests.models import DEEDS, N, PlainWatch, scheme_of, small_schemes

MOST = 10 ** 4


def state(watch):
    return [watch.broken, watch.deeds, watch.held]


def played(watch, deeds):
    """What the puts and takes return."""
    return [watch.put() if deed == "p" else watch.take() for deed in deeds]


class WatchTest(RingCase):

    def assert_stopped(self, watch):
        """From the break on nothing is done."""
        before = state(watch)
        self.assertIsNotNone(watch.broken)
        self.assertEqual(played(watch, "ptptppt"), [None] * 7)
        self.assertEqual(state(watch), before)

    def test_deed_by_deed_beside_a_plain_model(self):
        kinds = {}
        for scheme, n in small_schemes():
            for deeds in DEEDS:
                watch, plain = Watch(scheme, n), PlainWatch(scheme, n)
                wanted = [[played(plain, deed), plain.state()] for deed in deeds]
                self.assertEqual([[played(watch, deed), state(watch)] for deed in deeds], wanted)
                kinds[plain.broken[0] if plain.broken else None] = True
        self.assertEqual(set(kinds), {None, "shut", "outside", "empty", "wrong"})

    def test_a_new_watch(self):
        watch = Watch(scheme=Scheme.spare(), n=3)
        self.assertEqual(state(watch), [None, 0, 0])

    def test_nothing_breaks(self):
        watch = Watch(Scheme.counted(), 2)
        self.assertEqual(played(watch, "tppptttpt"), [None, True, True, False, 1, 2, None, True, 3])
        self.assertEqual(state(watch), [None, 9, 0])
        self.assert_integer(watch.deeds, 9)
        self.assert_integer(watch.held, 0)

    def test_a_ring_that_drops_is_a_queue_without_its_oldest(self):
        watch = Watch(Scheme.counted().remade(when="drop"), 2)
        self.assertEqual(played(watch, "pppp"), [True] * 4)
        self.assertEqual(state(watch), [None, 4, 2])
        self.assertEqual(played(watch, "ttt"), [3, 4, None])
        self.assertEqual(state(watch), [None, 7, 0])

    def test_values_count_only_what_is_laid(self):
        watch = Watch(Scheme.counted(), 1)
        self.assertEqual(played(watch, "pppptpt"), [True, False, False, False, 1, True, 2])
        self.assertEqual(state(watch), [None, 7, 0])

    def test_shut_with_a_ring_that_refuses(self):
        for full in (("diff", "=", Form(0, 0)), ("diff", ">=", Form(0, -1)), ("count", "=", Form(0, 0)),
                     ("count", ">=", Form(1, -20))):
            watch = Watch(scheme_of(N, full=full), 3)
            self.assertEqual(played(watch, "ttp"), [None, None, False])
            self.assertEqual(state(watch), [("shut", 3, None, None), 3, 0])
            self.assert_stopped(watch)
        watch = Watch(scheme_of(Form(0, 1)), 3)
        self.assertEqual([watch.put(), watch.broken], [False, ("shut", 1, None, None)])

    def test_shut_with_a_ring_that_drops_lays_its_value(self):
        watch = Watch(scheme_of(N, full=("diff", "=", Form(0, 0)), when="drop"), 3)
        self.assertIs(watch.put(), True)
        self.assertEqual(state(watch), [("shut", 1, None, None), 1, 1])
        self.assert_stopped(watch)

    def test_a_ring_that_puts_over_is_never_shut(self):
        watch = Watch(scheme_of(N, empty="count", full=("diff", "=", Form(0, 0)), when="over"), 3)
        self.assertEqual(played(watch, "ptpt"), [True, 1, True, 2])
        self.assertEqual(state(watch), [None, 4, 0])

    def test_outside(self):
        watch = Watch(scheme_of(Form(3, 0), "off", "same", ("diff", "=", N)), 2)
        self.assertEqual(played(watch, "ptptptptp"), [True, 1, True, 2, True, 3, True, 4, None])
        self.assertEqual(state(watch), [("outside", 9, None, None), 9, 0])
        self.assert_stopped(watch)

    def test_outside_keeps_what_is_held(self):
        for when in ("refuse", "drop", "over"):
            watch = Watch(scheme_of(Form(0, 3), "off", "count", ("count", "=", Form(0, 2)), when), 1)
            self.assertEqual(played(watch, "pp"), [True, True])
            if when == "refuse":
                self.assertEqual(played(watch, "p"), [False])
                self.assertEqual(state(watch), [None, 3, 2])
            else:
                self.assertEqual(played(watch, "p"), [None])
                self.assertEqual(state(watch), [("outside", 3, None, None), 3, 2])
                self.assert_stopped(watch)

    def test_empty(self):
        for when in ("refuse", "drop", "over"):
            watch = Watch(scheme_of(N, empty="same", full=("count", "=", N), when=when), 3)
            self.assertEqual(played(watch, "pppt"), [True, True, True, None])
            self.assertEqual(state(watch), [("empty", 4, 1, None), 4, 3])
            self.assert_stopped(watch)

    def test_empty_tells_the_oldest(self):
        watch = Watch(scheme_of(N, empty="same", full=("count", "=", N)), 3)
        self.assertEqual(played(watch, "ptpppt"), [True, 1, True, True, True, None])
        self.assertEqual(state(watch), [("empty", 6, 2, None), 6, 3])

    def test_wrong(self):
        watch = Watch(scheme_of(3, full=("diff", "=", N)), 3)
        self.assertEqual(played(watch, "pt" * 6 + "ppp"), [True, 1, True, 2, True, 3, True, 4, True, 5, True, 6] + [True] * 3)
        self.assertEqual(state(watch), [None, 15, 3])
        self.assertEqual(watch.take(), 9)
        self.assertEqual(state(watch), [("wrong", 16, 7, 9), 16, 2])
        self.assert_stopped(watch)

    def test_wrong_behind_a_put_over(self):
        watch = Watch(Scheme.counted().remade(when="over"), 2)
        self.assertEqual(played(watch, "pppt"), [True, True, True, 3])
        self.assertEqual(state(watch), [("wrong", 4, 1, 3), 4, 2])
        self.assert_stopped(watch)

    def test_sizes(self):
        for n in (1, MOST):
            watch = Watch(Scheme.counted(), n)
            self.assertEqual(played(watch, "ptp"), [True, 1, True])
        for wrong in NO_INTEGERS + [0, -1, MOST + 1, 10 ** 30, Form(0, 3), Counter(8, 3)]:
            with self.subTest(wrong=wrong):
                self.assert_error(NoSize, Watch, Scheme.spare(), wrong)
                self.assert_error(NoSize, Watch, scheme_of(Form(0, 0)), wrong)
        self.assert_error(NoRing, Watch, scheme_of(Form(0, 0)), MOST)
        self.assert_error(NoRing, Watch, scheme_of(Form(1, -5)), 5)

    def test_the_parts_are_kept(self):
        for when in ("refuse", "drop", "over"):
            for later in ("refuse", "drop", "over"):
                scheme = Scheme.counted().remade(when=when)
                watch, plain = Watch(scheme, 2), PlainWatch(scheme.remade(), 2)
                scheme.when, scheme.wrap, scheme.full = later, Form(0, 1), ("count", "=", Form(0, 0))
                for deed in "pptpptppp":
                    self.assertEqual([played(watch, deed), state(watch)], [played(plain, deed), plain.state()])
