"""Tracks: point 19, and (d) of point 3."""

from ringindexes.errors import NoRing, NoSize
from ringindexes.forms import Form
from ringindexes.queues import Watch
from ringindexes.runs import Run
from ringindexes.schemes import Scheme
from ringindexes.tracks import Track
from tests.helpers import NO_SIZES, RingCase
from tests.models import MORE_WRAPS, N, PlainWatch, plain_played, scheme_of, schemes_of, sized

GREATEST = 10 ** 30
MOST = 10 ** 40
THIRD = Form(3, 0)

# Each piece of these is done in jumps; together they meet rings that are empty, full and between.
RUNS = (
    ((3, "put"), (2, "take"), (9, "pair"), (2, "put"), (13, "pair"), (30, "take")),
    ((50, "pair"), (1, "put"), (50, "pair"), (1, "put"), (50, "pair"), (9, "put"), (9, "take")),
    ((2, "take"), (40, "put"), (1, "pair"), (1, "take"), (20, "pair"), (7, "put"), (2, "pair"), (40, "take")),
    ((1, "put"), (1, "take"), (0, "put"), (5, "put"), (0, "pair"), (3, "take"), (0, "take"), (8, "put"), (8, "take")),
    ((7, "pair"), (2, "put"), (1, "take"), (1, "put"), (1, "take"), (4, "pair"), (3, "put"), (9, "take"), (1, "put")),
)


def state(track):
    return [track.put_count, track.taken, track.held, track.deeds, track.broken]


def plain_state(watch):
    return [watch.laid, watch.laid - len(watch.queue), len(watch.queue), watch.deeds, watch.broken]


def single_deeds(pieces):
    """The pieces cut into pieces of one deed."""
    for times, word in pieces:
        for _ in range(times):
            for deed in {"put": ["put"], "take": ["take"], "pair": ["put", "take"]}[word]:
                yield 1, deed


class BesideWatchesTest(RingCase):

    def assert_alike(self, scheme, n, pieces):
        """A track is where a plain watch is: behind each piece, and behind one play of all pieces."""
        track, plain = Track(scheme, n), PlainWatch(scheme, n)
        for piece in pieces:
            broken = plain_played(plain, [piece])
            self.assertEqual(track.play(Run(piece)), broken)
            self.assertEqual(state(track), plain_state(plain))
        whole = Track(scheme, n)
        self.assertEqual(whole.play(Run(*pieces)), plain.broken)
        self.assertEqual(state(whole), plain_state(plain))
        return plain.broken[0] if plain.broken else None

    def test_all_small_schemes(self):
        kinds = {}
        for scheme, n in sized(schemes_of(MORE_WRAPS[:12]), (1, 2, 3, 5)):
            for pieces in RUNS[:3]:
                kinds[self.assert_alike(scheme, n, pieces)] = True
        self.assertEqual(set(kinds), {None, "shut", "outside", "empty", "wrong"})

    def test_sizes_to_eight_and_odd_masks(self):
        fulls = (("diff", "=", N), ("diff", ">=", Form(1, -1)), ("count", "=", N), ("count", ">=", Form(1, 2)),
                 ("next",), ("note",))
        for scheme, n in sized(schemes_of(MORE_WRAPS[12:] + (5,), fulls), (4, 6, 7, 8)):
            for pieces in RUNS[1:]:
                with self.subTest(scheme=scheme, n=n):
                    self.assert_alike(scheme, n, pieces)

    def test_masks_whose_values_last(self):
        # So few things are held that only some counters are wrong, which the pairs have to find.
        for width in (4, 5, 6):
            for n in (3, 5, 6, 7, 9, 10, 11, 12, 14, 19, 20, 22, 24, 28, 33, 36, 40):
                for limit in (1, 2, 3, 4, 5, 6, 8):
                    scheme = scheme_of(width, "mask", "count", ("count", "=", Form(0, limit)))
                    for ahead in (0, 1, 2, 3, 7, 12, 29):
                        self.assert_alike(scheme, n, ((ahead, "pair"), (limit - 1, "put"), (99, "pair"), (9, "take")))
                        self.assert_alike(scheme, n, ((ahead, "pair"), (limit, "put"), (9, "take")))

    def test_a_watch_of_the_program(self):
        for scheme, n in sized(schemes_of((N, Form(1, 2), 2), (("diff", "=", N), ("count", "=", Form(0, 4)))), (2, 3)):
            for pieces in RUNS:
                track, watch = Track(scheme, n), Watch(scheme, n)
                for piece in single_deeds(pieces):
                    watch.put() if piece[1] == "put" else watch.take()
                    track.play(Run(piece))
                    self.assertEqual([track.broken, track.deeds, track.held], [watch.broken, watch.deeds, watch.held])
                whole = Track(scheme, n)
                self.assertEqual(whole.play(Run(*pieces)), watch.broken)
                self.assertEqual([whole.deeds, whole.held], [watch.deeds, watch.held])


class TrackTest(RingCase):

    def assert_state(self, track, *wanted):
        """The counts (laid, taken, held, deeds), all of class int, and the break."""
        self.assertEqual(state(track), list(wanted))
        for number in state(track)[:4]:
            self.assertIs(type(number), int)

    def test_a_new_track(self):
        self.assert_state(Track(scheme=Scheme.spare(), n=3), 0, 0, 0, 0, None)

    def test_a_run_without_pieces(self):
        track = Track(Scheme.spare(), 3)
        self.assertIsNone(track.play(Run()))
        self.assertIsNone(track.play(run=Run((0, "put"), (0, "take"), (0, "pair"))))
        self.assert_state(track, 0, 0, 0, 0, None)
        shut = Track(scheme_of(N, full=("count", "=", Form(0, 0))), 3)
        self.assertIsNone(shut.play(Run((0, "put"), (0, "pair"))))
        self.assert_state(shut, 0, 0, 0, 0, None)

    def test_the_example(self):
        track = Track(Scheme.read("M = 2**3; slot rest; empty same; full diff = N; when refuse"), 3)
        self.assertEqual(track.play(Run.read("6 pair; 3 put; 1 take")), ("wrong", 16, 7, 9))
        self.assert_state(track, 9, 7, 2, 16, ("wrong", 16, 7, 9))

    def test_nothing_is_done_behind_a_break(self):
        for scheme, kind in ((scheme_of(N, full=("diff", "=", Form(0, 0))), "shut"),
                             (scheme_of(THIRD, "off", "same", ("diff", "=", N)), "outside"),
                             (scheme_of(N, "rest", "same", ("count", "=", N)), "empty"),
                             (scheme_of(N, "rest", "count", ("count", "=", Form(1, 1))), "wrong")):
            track = Track(scheme, 3)
            broken = track.play(Run((9, "pair"), (9, "put"), (1, "take"), (5, "put")))
            self.assertEqual(broken[0], kind)
            before = state(track)
            for pieces in ([], [(1, "put")], [(MOST, "take")], [(3, "pair"), (1, "take")]):
                self.assertEqual(track.play(Run(*pieces)), broken)
                self.assertEqual(state(track), before)

    def test_a_play_goes_on_where_the_last_one_ended(self):
        track = Track(Scheme.counted(), 3)
        self.assertIsNone(track.play(Run((2, "put"))))
        self.assert_state(track, 2, 0, 2, 2, None)
        self.assertIsNone(track.play(Run((5, "put"), (1, "take"))))
        self.assert_state(track, 3, 1, 2, 8, None)
        self.assertIsNone(track.play(Run((4, "pair"), (9, "take"))))
        self.assert_state(track, 7, 7, 0, 25, None)

    def test_the_run_stays_as_it_is(self):
        run = Run((2, "put"), (1, "take"))
        Track(Scheme.counted(), 3).play(run)
        self.assertEqual(run, Run((2, "put"), (1, "take")))

    def test_shut(self):
        for when, laid in (("refuse", 0), ("drop", 1)):
            for full in (("diff", "=", Form(0, 0)), ("diff", ">=", Form(0, -1)), ("count", ">=", Form(1, -9))):
                track = Track(scheme_of(N, full=full, when=when), 4)
                self.assertEqual(track.play(Run((3, "take"), (5, "put"))), ("shut", 4, None, None))
                self.assert_state(track, laid, 0, laid, 4, ("shut", 4, None, None))

    def test_great_pieces(self):
        for when, taken in (("refuse", 0), ("drop", MOST - GREATEST)):
            track = Track(Scheme.counted().remade(when=when), GREATEST)
            self.assertIsNone(track.play(Run((MOST, "put"))))
            self.assert_state(track, taken + GREATEST, taken, GREATEST, MOST, None)
            self.assertIsNone(track.play(Run(*[(MOST, "pair")] * 60, *[(MOST, "take")] * 39)))
            # The first pair meets a FULL ring: one put fewer, or one value dropped.
            laid = taken + GREATEST + 60 * MOST - (when == "refuse")
            self.assert_state(track, laid, laid, 0, 160 * MOST, None)

    def test_great_sizes_break(self):
        track = Track(scheme_of(THIRD, "off", "same", ("diff", "=", N)), GREATEST)
        broken = ("outside", 4 * GREATEST + 1, None, None)
        self.assertEqual(track.play(Run((MOST, "pair"))), broken)
        self.assert_state(track, 2 * GREATEST, 2 * GREATEST, 0, 4 * GREATEST + 1, broken)
        track = Track(scheme_of(N, full=("note",)), GREATEST)
        broken = ("empty", GREATEST + 1, 1, None)
        self.assertEqual(track.play(Run((GREATEST, "put"), (1, "take"))), broken)
        self.assert_state(track, GREATEST, 0, GREATEST, GREATEST + 1, broken)
        track = Track(scheme_of(100, full=("next",)), GREATEST)
        broken = ("wrong", GREATEST + 2, 1, GREATEST + 1)
        self.assertEqual(track.play(Run((GREATEST + 1, "put"), (MOST, "take"))), broken)

    def test_great_moduli(self):
        modulus, power = 2 ** 100, 2 ** 90
        track = Track(scheme_of(100, "mask", "count", ("count", "=", Form(0, 20))), 2 ** 99 + 1)
        self.assertEqual(track.play(Run((2, "put"), (1, "take"))), ("wrong", 3, 1, 2))
        track = Track(scheme_of(100, "mask", "count", ("count", ">=", N)), power)
        self.assertIsNone(track.play(Run((MOST, "pair"), (power - 1, "put"), (MOST, "pair"), (MOST, "put"))))
        self.assertIsNone(track.play(Run((modulus, "take"), (MOST, "pair"))))
        self.assertEqual(track.held, 0)

    def test_a_great_wrap_that_is_no_multiple_of_the_size(self):
        modulus = 2 ** 100
        left = modulus % GREATEST
        track = Track(scheme_of(100, "rest", "count", ("count", "=", N)), GREATEST)
        self.assertIsNone(track.play(Run((modulus - left, "pair"), (left, "put"), (left, "take"))))
        self.assert_state(track, modulus, modulus, 0, 2 * modulus, None)
        broken = ("wrong", 4 * modulus - left + 2, 2 * modulus - left + 1, 2 * modulus + 1)
        self.assertEqual(track.play(Run((modulus - left, "pair"), (left + 1, "put"), (1, "take"))), broken)
        self.assert_state(track, broken[3], broken[2], left, broken[1], broken)

    def test_a_ring_that_puts_over(self):
        track = Track(Scheme.counted().remade(when="over"), 5)
        self.assertIsNone(track.play(Run((MOST, "put"))))
        self.assert_state(track, MOST, 0, MOST, MOST, None)
        self.assertEqual(track.play(Run((2, "take"))), ("wrong", MOST + 1, 1, MOST - 4))
        self.assert_state(track, MOST, 1, MOST - 1, MOST + 1, ("wrong", MOST + 1, 1, MOST - 4))
        track = Track(Scheme.spare().remade(when="over"), 5)
        self.assertEqual(track.play(Run((MOST, "put"), (1, "take"))), ("empty", MOST + 1, 1, None))

    def test_the_parts_are_kept(self):
        for when in ("refuse", "drop", "over"):
            for later in ("refuse", "drop", "over"):
                scheme = Scheme.counted().remade(when=when)
                track, plain = Track(scheme, 2), PlainWatch(scheme.remade(), 2)
                scheme.when, scheme.wrap, scheme.full = later, Form(0, 1), ("count", "=", Form(0, 0))
                scheme.empty, scheme.slot = "same", "off"
                for pieces in RUNS:
                    self.assertEqual(track.play(Run(*pieces)), plain_played(plain, pieces))
                    self.assertEqual(state(track), plain_state(plain))

    def test_wrong_sizes(self):
        for wrong in NO_SIZES:
            with self.subTest(wrong=wrong):
                self.assert_error(NoSize, Track, Scheme.spare(), wrong)
                self.assert_error(NoSize, Track, scheme_of(Form(0, 0)), wrong)
        for n in (1, 5):
            self.assert_error(NoRing, Track, scheme_of(Form(1, -5)), n)
        self.assert_error(NoRing, Track, scheme_of(Form(0, 0)), GREATEST)
        self.assertEqual(Track(scheme_of(Form(1, -5)), 6).play(Run((1, "put"))), ("shut", 1, None, None))
