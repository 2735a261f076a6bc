"""Verdicts: point 22, and (a) and (b) of point 3."""

from ringindexes.errors import NoSize
from ringindexes.forms import Form
from ringindexes.rooms import room_of
from ringindexes.runs import Run, show_run
from ringindexes.schemes import Scheme
from ringindexes.tracks import Track
from ringindexes.verdicts import Verdict, verdict_of
from ringindexes.windows import alike_of, window_of
from tests.helpers import NO_SIZES, RingCase
from tests.models import (MORE_WRAPS, N, PlainWatch, plain_alike, plain_modulus, plain_played, plain_room,
                          plain_window, reached, scheme_of, schemes_of, sized)

GREATEST = 10 ** 30
DOUBLED, THIRD = Form(2, 0), Form(3, 0)
KINDS = {"shut": "shut", "outside": "outside", "empty": "empty", "slot": "wrong"}
FULLS = (("diff", "=", N), ("diff", "=", Form(0, -1)), ("diff", ">=", Form(1, -1)), ("count", "=", N), ("next",),
         ("count", ">=", Form(0, 2)), ("diff", "=", Form(0, 0)), ("count", ">=", Form(1, 1)), ("note",))


def plain_cause(scheme, n):
    """The cause as point 22 tells it, by rooms and windows that are counted."""
    modulus = plain_modulus(scheme.wrap, n)
    if modulus < 1:
        return "nothing"
    room, window = plain_room(scheme, n), plain_window(scheme, n)
    endless = room is None
    if room == 0:
        return "shut"
    if plain_alike(scheme, n) is None:
        return "outside"
    if scheme.empty == "same" and (endless or room >= modulus):
        return "empty"
    return "slot" if endless or room > window else "right"


def less_one_deed(run):
    """The pieces of a run without its last deed."""
    *others, (times, word) = run.pieces
    assert word != "pair" and times > 0
    return others + [(times - 1, word)]


class VerdictTest(RingCase):

    def assert_breaks(self, scheme, n, verdict):
        """The run of a verdict breaks a track at its last deed, by the kind of the cause."""
        run = verdict.run
        track = Track(scheme, n)
        broken = track.play(run)
        self.assertEqual(broken[:2], (KINDS[verdict.cause], run.all_deeds()))
        self.assertNotIn(0, [times for times, word in run.pieces])
        early = Track(scheme, n)
        self.assertIsNone(early.play(Run(*less_one_deed(run))))
        self.assertEqual(early.deeds, run.all_deeds() - 1)
        return broken

    def test_causes_beside_counted_rooms_and_windows(self):
        causes = {}
        for scheme, n in ((scheme, n) for scheme in schemes_of(MORE_WRAPS, FULLS) for n in (1, 2, 3, 4, 6, 8)):
            verdict = verdict_of(scheme, n)
            cause = plain_cause(scheme, n)
            causes[cause] = True
            with self.subTest(scheme=scheme, n=n):
                self.assertEqual(verdict.cause, cause)
                self.assertIs(bool(verdict), cause == "right")
                if cause == "nothing":
                    self.assertEqual([verdict.room, verdict.window, verdict.run], [None] * 3)
                else:
                    self.assertEqual([verdict.room, verdict.window], [room_of(scheme, n), window_of(scheme, n)])
        self.assertEqual(set(causes), {"nothing", "shut", "outside", "empty", "slot", "right"})

    def test_runs_break_by_their_last_deed(self):
        for scheme, n in sized(schemes_of(MORE_WRAPS, FULLS), (1, 2, 3, 5, 8)):
            verdict = verdict_of(scheme, n)
            if verdict:
                self.assertIsNone(verdict.run)
                continue
            with self.subTest(scheme=scheme, n=n):
                broken = self.assert_breaks(scheme, n, verdict)
                self.assertEqual(plain_played(PlainWatch(scheme, n), verdict.run.pieces), broken)
                self.assertIsNone(plain_played(PlainWatch(scheme, n), less_one_deed(verdict.run)))

    def test_right_exactly_if_a_search_finds_no_breaking_run(self):
        fulls = FULLS[:5] + (("note",),)
        wraps = (N, Form(1, 1), Form(1, -1), DOUBLED, Form(2, -1), Form(2, 1), THIRD, Form(0, 3), 1, 2, 3)
        both = {}
        for scheme, n in sized(schemes_of(wraps, fulls), (1, 2, 3, 4)):
            verdict = verdict_of(scheme, n)
            both[bool(verdict)] = True
            with self.subTest(scheme=scheme, n=n):
                if not verdict:
                    self.assertIsNotNone(plain_played(PlainWatch(scheme, n), verdict.run.pieces))
                    continue
                for watch in reached(scheme, n):
                    self.assertIsNone(watch.broken)
                    # (b): it refuses, or drops, exactly where its room is held.
                    self.assertIs(watch.ring.full(), len(watch.queue) == room_of(scheme, n))
        self.assertEqual(set(both), {True, False})

    def test_a_search_finds_a_break_where_the_verdict_is_not_right(self):
        for scheme in (scheme_of(N, full=("note",)), scheme_of(THIRD, "off"), scheme_of(2, full=("diff", "=", N))):
            self.assertFalse(verdict_of(scheme, 3))
            self.assertEqual(len([watch for watch in reached(scheme, 3) if watch.broken]), 1)
        self.assertEqual([watch for watch in reached(Scheme.spare(), 3) if watch.broken], [])

    def test_the_runs_as_they_are_told(self):
        self.assertEqual(show_run(verdict_of(scheme_of(N, full=("count", "=", Form(0, 0))), 7).run), "1 put")
        self.assertEqual(show_run(verdict_of(scheme_of(THIRD, "off"), 7).run), "14 pair; 1 put")
        self.assertEqual(show_run(verdict_of(scheme_of(Form(2, 1), full=("note",)), 7).run), "15 put; 1 take")
        self.assertEqual(show_run(verdict_of(scheme_of(Form(1, 2)), 7).run), "7 pair; 3 put; 1 take")
        # c of alike_of is 0, so there is no piece of pairs.
        scheme = scheme_of(DOUBLED)
        self.assertEqual(alike_of(scheme, 7), (0, 7))
        self.assertEqual(show_run(verdict_of(scheme, 7).run), "8 put; 1 take")

    def test_the_first_cause_that_applies(self):
        zero = Form(0, 0)
        # Each one with what all later causes ask for, too.
        self.assertEqual(verdict_of(scheme_of(zero, "off", full=("diff", "=", zero)), 3).cause, "nothing")
        self.assertEqual(verdict_of(scheme_of(THIRD, "off", full=("diff", "=", zero)), 3).cause, "shut")
        self.assertEqual(verdict_of(scheme_of(THIRD, "off", full=("note",)), 3).cause, "outside")
        self.assertEqual(verdict_of(scheme_of(THIRD, full=("note",)), 3).cause, "empty")
        self.assertEqual(verdict_of(scheme_of(THIRD, empty="note", full=("note",)), 3).cause, "slot")
        self.assertEqual(verdict_of(scheme_of(N, empty="note", full=("note",)), 3).cause, "right")

    def test_the_example(self):
        verdict = verdict_of(Scheme.read("M = 2**3; slot rest; empty same; full diff = N; when refuse"), 3)
        self.assertEqual([bool(verdict), verdict.cause, verdict.room, verdict.window, show_run(verdict.run)],
                         [False, "slot", 3, 2, "6 pair; 3 put; 1 take"])
        self.assertIs(bool(verdict), False)
        self.assert_integer(verdict.room, 3)
        self.assert_integer(verdict.window, 2)

    def test_known_schemes(self):
        for n in (1, 2, 3, 7, 8, 10 ** 4, GREATEST):
            self.assertEqual(verdict_of(Scheme.spare(), n).cause, "right" if n > 1 else "shut")
            for scheme in (Scheme.doubled(), Scheme.counted(), Scheme.noted()):
                verdict = verdict_of(scheme, n)
                self.assertEqual([verdict.cause, verdict.room, verdict.window, verdict.run], ["right", n, n, None])
                self.assertIs(bool(verdict), True)
                self.assertEqual(verdict_of(scheme.remade(when="drop"), n).cause, "right")
                self.assertIn(verdict_of(scheme.remade(when="over"), n).cause, ("slot", "empty"))
        powers = [2 ** k for k in range(100)]
        for n in (1, 2, 3, 4, 63, 64, 65, 2 ** 90 - 1, 2 ** 90, 2 ** 90 + 1, 2 ** 99, GREATEST):
            self.assertIs(bool(verdict_of(Scheme.masked(100), n)), n in powers)

    def test_a_modulus_of_one(self):
        one = Form(0, 1)
        self.assertEqual(verdict_of(scheme_of(one, "rest", "count", ("count", "=", one)), 5).cause, "right")
        self.assertEqual(verdict_of(scheme_of(one, "rest", "same", ("count", "=", one)), 5).cause, "empty")
        self.assertEqual(verdict_of(scheme_of(one), 5).cause, "shut")
        off = verdict_of(scheme_of(one, "off", "count", ("count", "=", N)), 5)
        self.assertEqual([off.cause, show_run(off.run)], ["slot", "2 put; 1 take"])

    def test_great_sizes_and_moduli(self):
        n, modulus = GREATEST, 2 ** 100
        for wrap, parts, cause, room, window, run in (
                (N, ("rest", "same", ("count", ">=", Form(0, -1))), "shut", 0, n, "1 put"),
                (THIRD, ("off", "same", ("diff", "=", N)), "outside", n, 0, f"{2 * n} pair; 1 put"),
                (100, ("rest", "same", ("count", "=", THIRD)), "empty", 3 * n, modulus - n, f"{modulus} put; 1 take"),
                (100, ("rest", "same", ("diff", "=", N)), "slot", n, modulus - n,
                 f"{n} pair; {modulus - n + 1} put; 1 take"),
                (100, ("mask", "same", ("diff", "=", N)), "slot", n, 2 ** 30, f"{2 ** 30 + 1} put; 1 take"),
                (Form(4, 20), ("rest", "count", ("count", "=", N)), "slot", n, 20, f"{4 * n} pair; 21 put; 1 take")):
            scheme = scheme_of(wrap, *parts)
            with self.subTest(cause=cause):
                verdict = verdict_of(scheme, n)
                self.assertEqual([verdict.cause, verdict.room, verdict.window, show_run(verdict.run)],
                                 [cause, room, window, run])
                self.assert_breaks(scheme, n, verdict)
        self.assertIs(bool(verdict_of(scheme_of(100, "mask", "count", ("count", "=", Form(0, 20))), n)), True)

    def test_the_sizes_about_powers_of_two(self):
        for power in (2 ** 10, 2 ** 64, 2 ** 99):
            for scheme in (Scheme.masked(100), Scheme.masked(100).remade(slot="rest"), Scheme.doubled(),
                           scheme_of(100, "off", "count", ("count", "=", N))):
                for n in (power - 1, power, power + 1):
                    verdict = verdict_of(scheme, n)
                    if not verdict:
                        self.assert_breaks(scheme, n, verdict)
                self.assertEqual(verdict_of(scheme, 2 ** 99).cause, "right")

    def test_returned_runs_are_new(self):
        verdict = verdict_of(scheme_of(THIRD, "off"), 7)
        run = verdict.run
        run += Run((1, "take"))
        self.assertEqual(show_run(verdict.run), "14 pair; 1 put")

    def test_the_parts_are_kept(self):
        scheme = scheme_of(THIRD, "off")
        verdict, same = verdict_of(scheme, 7), Verdict(scheme=scheme, n=7)
        scheme.wrap, scheme.slot, scheme.full = N, "rest", ("diff", "=", Form(0, 0))
        for told in (verdict, same):
            self.assertIs(type(told), Verdict)
            self.assertEqual([told.cause, told.room, told.window, show_run(told.run), bool(told)],
                             ["outside", 20, 0, "14 pair; 1 put", False])
        self.assertEqual(verdict_of(scheme, 7).cause, "shut")

    def test_wrong_sizes(self):
        for make in (Verdict, verdict_of):
            for scheme in (Scheme.spare(), scheme_of(Form(0, 0)), scheme_of(N, when="over")):
                for wrong in NO_SIZES:
                    with self.subTest(wrong=wrong):
                        self.assert_error(NoSize, make, scheme, wrong)

    def test_a_verdict_is_made_where_there_is_no_ring(self):
        for make in (Verdict, verdict_of):
            for scheme, n in ((scheme_of(Form(0, 0)), GREATEST), (scheme_of(Form(1, -5)), 5),
                              (scheme_of(Form(4, -20), when="over"), 1)):
                verdict = make(scheme, n)
                self.assertEqual([verdict.cause, verdict.room, verdict.window, verdict.run], ["nothing"] + [None] * 3)
                self.assertIs(bool(verdict), False)
