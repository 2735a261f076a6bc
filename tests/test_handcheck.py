"""Verdicts on hands and shortest breaks: points 51 and 52, and (g) of point 3."""

from ringindexes.bench import Bench
from ringindexes.errors import NoSize, NotRight, TooLong
from ringindexes.forms import Form
from ringindexes.handcheck import HandsVerdict, hands_verdict, shortest_break
from ringindexes.hands import Hands
from ringindexes.rooms import room_of
from ringindexes.schemes import Scheme
from ringindexes.verdicts import verdict_of
from ringindexes.windows import window_of
from tests.helpers import NO_SIZES, RingCase
from tests.models import N, plain_modulus, scheme_of, schemes_of, sized
from tests.step_models import (SWITCHES, WAY_FULLS, WAY_WRAPS, PlainBench, plain_way, right_schemes, switches_told)

GREATEST = 10 ** 30
CAUSES = {"right", "scheme", "kept", "write", "tell", "read"}
RIGHT = ("first", "first", "each", "one")


def all_hands(scheme):
    for values in SWITCHES:
        yield values, Hands(scheme, **switches_told(values))


def plain_cause(scheme, n, values):
    """The rules of point 51, as they stand there."""
    writing, reading, looking, telling = values
    way = plain_way(scheme)
    if not verdict_of(scheme, n):
        return "scheme"
    room, window, modulus = room_of(scheme, n), window_of(scheme, n), plain_modulus(scheme.wrap, n)
    if not (looking == "each" or way == "counters"):
        return "kept"
    if not writing == "first":
        return "write"
    if not (telling == "one" or way == "counters" or (way == "count" and room == 1)
            or (way == "note" and modulus == 1)):
        return "tell"
    if not (reading == "first" or room + 1 <= window):
        return "read"
    return "right"


def plain_key(bench):
    """What decides how a plain bench goes on: values are told from the one that is read next."""
    hands = []
    for hand in (bench.p, bench.t):
        hands += [hand.place, hand.counter, hand.work_at, hand.done - bench.t.done]
        hands += [hand.other, hand.number, hand.told_note] if bench.looking == "kept" else []
        hands += [hand.copy if hand.place < len(hand.steps) and hand.steps[hand.place] == "set" else None]
    held = [None if cell is None or cell <= bench.t.done else cell - bench.t.done for cell in bench.slots]
    return (*hands, bench.number, bench.note, *held)


def played(scheme, n, values, text):
    bench = PlainBench(scheme, n, **switches_told(values))
    for hand in text:
        bench.step(hand)
    return bench


def plain_break(scheme, n, values):
    """The shortest and first text that breaks a plain bench, found by playing each text from the start."""
    met, texts = {plain_key(played(scheme, n, values, ""))}, [""]
    while texts:
        longer = []
        for text in texts:
            for hand in "pt":
                bench = played(scheme, n, values, text + hand)
                if bench.broken:
                    return text + hand
                if plain_key(bench) not in met:
                    met.add(plain_key(bench))
                    longer.append(text + hand)
        texts = longer
    return None


def less_one_step(pieces):
    *others, (times, hand) = pieces
    return [*others, (times - 1, hand)]


class HandsVerdictTest(RingCase):

    def assert_run(self, hands, n, modulus):
        """The run of a verdict is of the kind that is told, and breaks a bench at its last step."""
        verdict = hands_verdict(hands, n)
        steps = sum(times for times, _ in verdict.run)
        self.assertLessEqual(len(verdict.run), 12)
        self.assertLessEqual(steps, 20 * (modulus + n) + 100)
        self.assertGreaterEqual(min(times for times, _ in verdict.run), 1)
        self.assertIn(verdict.start, range(modulus))
        bench = Bench(hands, n, at=verdict.start)
        self.assertIsNone(bench.play(*less_one_step(verdict.run)))
        self.assertEqual(bench.play((1, verdict.run[-1][1]))[0], steps)
        return verdict

    def test_beside_the_rules(self):
        causes = {}
        schemes = [scheme for scheme in schemes_of(WAY_WRAPS, WAY_FULLS, whens=("refuse",)) if plain_way(scheme)]
        for scheme in schemes:
            for n in (1, 2, 3, 4, 5, 8, 10 ** 6, GREATEST):
                for values, hands in all_hands(scheme):
                    verdict = hands_verdict(hands, n)
                    cause = plain_cause(scheme, n, values)
                    causes[cause] = True
                    if (verdict.cause, bool(verdict)) != (cause, cause == "right"):
                        self.fail(f"{verdict.cause, cause, values, n}")
                    if cause in ("right", "scheme"):
                        self.assertEqual([verdict.start, verdict.run], [0, ()])
        self.assertEqual(set(causes), CAUSES)

    def test_runs_played_by_plain_benches(self):
        causes = {}
        for scheme, n in right_schemes((1, 2, 3, 4, 5, 8)):
            for values, hands in all_hands(scheme):
                if hands_verdict(hands, n):
                    continue
                verdict = self.assert_run(hands, n, plain_modulus(scheme.wrap, n))
                causes[verdict.cause] = True
                plain = PlainBench(scheme, n, **switches_told(values), at=verdict.start)
                self.assertIsNone(plain.play(*less_one_step(verdict.run)))
                self.assertIsNotNone(plain.play((1, verdict.run[-1][1])))
        self.assertEqual(set(causes), CAUSES - {"right", "scheme"})

    def test_runs_at_great_sizes(self):
        for scheme, n in ((Scheme.doubled(), GREATEST), (Scheme.counted(), GREATEST), (Scheme.noted(), GREATEST),
                          (Scheme.spare(), GREATEST), (Scheme.masked(100), 2 ** 99),
                          (scheme_of(100, "mask", "count", ("count", ">=", Form(0, 4))), GREATEST - 4),
                          (scheme_of(Form(4, 20), "rest", "count", ("count", "=", Form(0, 20))), GREATEST),
                          (scheme_of(Form(1, 20), "off", "same", ("diff", "=", Form(0, 20))), GREATEST)):
            self.assertTrue(verdict_of(scheme, n))
            modulus = 2 ** 100 if scheme.wrap == 100 else scheme.wrap(n)
            for values, hands in all_hands(scheme):
                if not hands_verdict(hands, n):
                    self.assert_run(hands, n, modulus)

    def test_beside_a_search_of_all_orders(self):
        found = {}
        for scheme, n in right_schemes((1, 2, 3)):
            if plain_modulus(scheme.wrap, n) <= 3:
                for values, hands in all_hands(scheme):
                    broken = plain_break(scheme, n, values)
                    found[broken is None] = True
                    if bool(hands_verdict(hands, n)) is not (broken is None):
                        self.fail(f"{values, n, broken}")
        self.assertEqual(set(found), {True, False})

    def test_a_start_that_is_not_zero(self):
        # Only from the last counters of a lap on is the next one with the slot so near.
        scheme = scheme_of(3, "rest", "count", ("count", "=", Form(0, 3)))
        verdict = hands_verdict(Hands(scheme, reading="last"), 5)
        self.assertEqual([verdict.cause, verdict.start], ["read", 5])
        self.assertIsNone(Bench(Hands(scheme, reading="last"), 5).play(*verdict.run))

    def test_the_first_cause_that_fails(self):
        two = scheme_of(N, "rest", "count", ("count", "=", Form(0, 2)))
        for values, n, cause in ((("last", "last", "kept", "two"), 2, "kept"), (("last", "last", "each", "two"), 2, "write"),
                                 (("first", "last", "each", "two"), 2, "tell"), (("first", "last", "each", "one"), 2, "read"),
                                 (("first", "last", "each", "one"), 3, "right"), (RIGHT, 2, "right"),
                                 (RIGHT, 1, "scheme"), (("last", "last", "kept", "two"), 1, "scheme")):
            verdict = hands_verdict(Hands(two, **switches_told(values)), n)
            self.assertEqual([verdict.cause, bool(verdict)], [cause, cause == "right"])

    def test_rooms_and_moduli_of_one(self):
        one = scheme_of(N, "rest", "count", ("count", "=", Form(0, 1)))
        note = scheme_of(Form(0, 1), "rest", "note", ("note",))
        for scheme in (one, note):
            self.assertEqual(hands_verdict(Hands(scheme, telling="two"), GREATEST).cause, "right")
        self.assertEqual(hands_verdict(Hands(one, telling="two", reading="last"), 2).cause, "right")
        self.assertEqual(hands_verdict(Hands(one, telling="two", reading="last"), 1).cause, "read")
        self.assertEqual(hands_verdict(Hands(note, telling="two", reading="last"), 5).cause, "read")
        # A room of one in the way of the note is a modulus of one, and nothing else.
        self.assertEqual(hands_verdict(Hands(Scheme.noted(), telling="two"), 2).cause, "tell")
        self.assertEqual(hands_verdict(Hands(Scheme.noted(), telling="two"), 1).cause, "right")

    def test_the_example(self):
        self.assertEqual([hands_verdict(Hands(Scheme.doubled(), reading="last"), 2).cause,
                          hands_verdict(Hands(Scheme.spare(), reading="last"), 3).cause,
                          shortest_break(Hands(Scheme.doubled(), writing="last"), 2)], ["read", "right", "pptt"])

    def test_the_parts_are_kept(self):
        hands = Hands(Scheme.counted(), writing="last")
        for verdict in (hands_verdict(hands=hands, n=3), HandsVerdict(hands=hands, n=3)):
            hands.writing = "first"
            self.assertIs(type(verdict), HandsVerdict)
            self.assertEqual([verdict.cause, bool(verdict), type(verdict.run)], ["write", False, tuple])
            self.assertEqual(set(map(type, verdict.run)), {tuple})
            self.assert_integer(verdict.start, 0)
            hands.writing = "last"

    def test_wrong_sizes(self):
        for call in (hands_verdict, HandsVerdict):
            for scheme in (Scheme.doubled(), scheme_of(Form(0, 0))):
                for wrong in NO_SIZES:
                    self.assert_error(NoSize, call, Hands(scheme, writing="last"), wrong)


class ShortestBreakTest(RingCase):

    def test_beside_a_plain_search(self):
        lengths = {}
        for scheme, n in right_schemes((1, 2, 4)):
            if plain_modulus(scheme.wrap, n) <= 2 or (plain_modulus(scheme.wrap, n) <= 4 and n == 4):
                for values, hands in all_hands(scheme):
                    wanted = plain_break(scheme, n, values)
                    if shortest_break(hands, n) != wanted:
                        self.fail(f"{values, n, wanted, shortest_break(hands, n)}")
                    lengths[None if wanted is None else len(wanted)] = True
        self.assertIn(None, lengths)
        self.assertGreater(len(lengths), 5)

    def test_none_exactly_where_hands_are_right(self):
        for scheme, n in right_schemes((1, 2, 3, 4, 5, GREATEST)):
            if scheme.wrap != 3 and plain_modulus(scheme.wrap, n) <= 4:
                for values, hands in all_hands(scheme):
                    text = shortest_break(hands, n)
                    self.assertIs(text is None, bool(hands_verdict(hands, n)))
                    if text is not None:
                        bench = Bench(hands, n)
                        self.assertIsNone(bench.play(*[(1, hand) for hand in text[:-1]]))
                        self.assertEqual(bench.play((1, text[-1]))[0], len(text))

    def test_texts(self):
        for way, values, n, text in (("counters", ("last", "first", "each", "one"), 2, "pptt"),
                                     ("counters", ("last", "first", "kept", "one"), 2, "ppttt"),
                                     ("counters", ("last", "last", "each", "one"), 2, "ppttt"),
                                     ("counters", ("first", "last", "each", "one"), 1, "pppttppt"),
                                     ("counters", RIGHT, 2, None)):
            self.assertEqual(way, Hands(Scheme.doubled()).way)
            self.assertEqual(shortest_break(Hands(Scheme.doubled(), **switches_told(values)), n), text)
        self.assertEqual(shortest_break(Hands(Scheme.noted(), telling="two"), 2), "pppttttptt")

    def test_moduli_of_four_and_five(self):
        for scheme, n in ((Scheme.doubled(), 2), (Scheme.counted(), 4), (Scheme.masked(2), 2), (Scheme.noted(), 4),
                          (scheme_of(Form(0, 4)), GREATEST)):
            self.assertIsNone(shortest_break(Hands(scheme), n))
            self.assertEqual(shortest_break(hands=Hands(scheme, writing="last"), n=n)[:2], "pp")
        for scheme, n in ((Scheme.doubled(), 3), (Scheme.counted(), 5), (Scheme.masked(3), 4), (Scheme.noted(), 5),
                          (scheme_of(Form(0, 5)), GREATEST), (Scheme.masked(100), 2 ** 99)):
            for values, hands in all_hands(scheme):
                self.assert_error(TooLong, shortest_break, hands, n)

    def test_wrong_inputs(self):
        for wrong in NO_SIZES:
            for scheme in (Scheme.doubled(), scheme_of(Form(0, 0))):
                self.assert_error(NoSize, shortest_break, Hands(scheme), wrong)
        for scheme, n in sized(schemes_of((N, Form(3, 0), Form(0, 5), Form(0, 2), 3), WAY_FULLS, whens=("refuse",)),
                               (1, 3, 7)):
            verdict = verdict_of(scheme, n)
            if plain_way(scheme) and not verdict:
                self.assertEqual(self.assert_error(NotRight, shortest_break, Hands(scheme), n).why, verdict.cause)
        self.assertEqual(self.assert_error(NotRight, shortest_break, Hands(scheme_of(Form(1, -9))), 9).why, "nothing")
