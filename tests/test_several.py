"""Several putters and several takers: points 53 to 56, and (g) and (h) of point 3."""

from copy import deepcopy
from itertools import product
from random import Random

from ringindexes.errors import NoHands, NoSize, NoSteps, NotDecided, NotRight
from ringindexes.forms import Form
from ringindexes.rooms import room_of
from ringindexes.schemes import Scheme
from ringindexes.several import Fan, Putters, SeveralVerdict, fan_verdict, putters_verdict
from ringindexes.verdicts import verdict_of
from tests.helpers import NO_INTEGERS, NO_SIZES, RingCase
from tests.models import MORE_FULLS, N, plain_modulus, scheme_of, schemes_of
from tests.step_models import PlainFan, PlainPutters, plain_way, right_schemes

GREATEST = 10 ** 30
MOST = 10 ** 40
PUTTER_SWITCHES = tuple(product(("turn", "any"), ("one", "two")))
NO_WORDS = NO_INTEGERS + [0, 1, 3, "Turn", "turns", "three", "near", ("turn",), ["low"], Form(1, 0), Scheme.spare()]
NO_MANY = NO_INTEGERS + [0, -1, 5, GREATEST, Form(0, 2)]
NO_STARTS = NO_INTEGERS + [-1, MOST + 1, Form(0, 1)]
NO_PIECES = NO_INTEGERS + ["a", (1,), (1, "a", 1), [1, "a"], ("a", 1), (-1, "a"), (MOST + 1, "a"), (1, "put"),
                           (True, "a"), (None, "a"), (1, None), (1, ["a"]), (1, "e"), (1, "A"), ((1, "a"),)]
NOT_RIGHT = ((scheme_of(Form(0, 0)), 3), (scheme_of(N, full=("diff", "=", Form(0, 0))), 3),
             (scheme_of(Form(3, 0), "off"), GREATEST), (scheme_of(N, full=("diff", "=", N)), 3),
             (scheme_of(Form(2, 1)), 3), (Scheme.spare(), 1))


def counter_schemes(sizes=(1, 2, 3, 4, 5)):
    """The right schemes of the way of counters."""
    return [(scheme, n) for scheme, n in right_schemes(sizes) if plain_way(scheme) == "counters"]


def starts(scheme, n):
    modulus = plain_modulus(scheme.wrap, n)
    return (0, modulus - 1, max(modulus - 2, 0), MOST)


def state(bench):
    return [bench.broken, bench.levels, bench.steps]


def fan_state(fan, many):
    return [fan.broken, fan.put_count, fan.deeds, [fan[k] for k in range(many)]]


def less_one_step(pieces):
    *others, (times, hand) = pieces
    return [*others, (times - 1, hand)]


class SeveralCase(RingCase):

    def assert_decided(self, call):
        """NotDecided for schemes of other ways, or that do not refuse; sizes come first."""
        others = {}
        for scheme in schemes_of((N, Form(0, 0)), MORE_FULLS):
            if plain_way(scheme) != "counters":
                others[scheme.when] = True
                self.assert_error(NotDecided, call, scheme, 3, 0)
                self.assert_error(NoSize, call, scheme, 0, 0)
        self.assertEqual(len(others), 3)

    def assert_sizes(self, call):
        for wrong in NO_SIZES:
            with self.subTest(wrong=wrong):
                self.assert_error(NoSize, call, Scheme.doubled(), wrong, 2)
                self.assert_error(NoSize, call, Scheme.counted(), wrong, 0)
                self.assert_error(NoSize, call, scheme_of(Form(0, 0)), wrong, None)

    def assert_right(self, call, **switches):
        for scheme, n in NOT_RIGHT:
            why = verdict_of(scheme, n).cause
            self.assertNotEqual(why, "right")
            self.assertEqual(self.assert_error(NotRight, call, scheme, n, 0, **switches, at=-1).why, why)

    def assert_run(self, verdict, modulus, n):
        steps = sum(times for times, _ in verdict.run)
        self.assertLessEqual(len(verdict.run), 12)
        self.assertLessEqual(steps, 20 * (modulus + n) + 100)
        self.assertGreaterEqual(min(times for times, _ in verdict.run), 1)
        self.assertIn(verdict.start, range(modulus))
        return steps


class PuttersTest(SeveralCase):

    def both(self, scheme, n, many, tell, test, at):
        return (Putters(scheme, n, many, tell=tell, test=test, at=at),
                PlainPutters(scheme, n, many, room_of(scheme, n), tell, test, at))

    def test_single_steps_beside_a_plain_model(self):
        chance = Random(3)
        kinds = {}
        for scheme, n in counter_schemes():
            for many, (tell, test), at in product((1, 2, 3, 4), PUTTER_SWITCHES, starts(scheme, n)):
                bench, plain = self.both(scheme, n, many, tell, test, at)
                for _ in range(40):
                    hand = chance.choice("abcd"[:many] + "tt")
                    name = bench.step(hand)
                    self.assertEqual(name, plain.step(hand))
                    self.assertEqual(state(bench), plain.state())
                    kinds[name] = True
                kinds[bench.broken and bench.broken[1]] = True
        self.assertEqual(set(kinds), {"number", "write", "tell", "test", "look", "read", None, "over"})

    def test_pieces_beside_a_plain_model(self):
        chance = Random(4)
        kinds = {}
        for scheme, n in counter_schemes((1, 2, 3, 4)):
            for many, (tell, test), at in product((1, 2, 3, 4), PUTTER_SWITCHES, starts(scheme, n)):
                bench, plain = self.both(scheme, n, many, tell, test, at)
                pieces = [(chance.choice((0, 1, 2, 3, 4, 7, 12, 30)), chance.choice("abcd"[:many] + "t"))
                          for _ in range(9)]
                for piece in pieces:
                    self.assertEqual(bench.play(piece), plain.play(piece))
                    self.assertEqual(state(bench), plain.state())
                whole, _ = self.both(scheme, n, many, tell, test, at)
                self.assertEqual(whole.play(*pieces), plain.broken)
                self.assertEqual(state(whole), plain.state())
                kinds[bench.broken and bench.broken[1]] = True
        self.assertEqual(set(kinds), {None, "over", "read"})

    def test_great_pieces_cut_in_two(self):
        for scheme, n in ((Scheme.doubled(), GREATEST), (Scheme.spare(), GREATEST), (Scheme.masked(100), 2 ** 99)):
            pieces = ((n, "a"), (1, "b"), (2 * n, "c"), (5, "t"), (MOST, "b"), (n + 7, "t"), (MOST, "a"), (MOST, "t"),
                      (2, "c"), (MOST, "b"), (MOST, "t"))
            for tell, test in PUTTER_SWITCHES:
                whole = Putters(scheme, n, 3, tell=tell, test=test, at=7)
                told = whole.play(*pieces)
                for first in (1, 2, 3, 5, n // 2):
                    cut = Putters(scheme, n, 3, tell=tell, test=test, at=7)
                    for times, hand in pieces:
                        cut.play((min(first, times), hand), (times - min(first, times), hand))
                    self.assertEqual([cut.broken, *state(cut)], [told, *state(whole)])

    def test_levels_behind_great_pieces(self):
        for test, cycle in (("one", 3), ("two", 4)):
            bench = Putters(Scheme.doubled(), GREATEST, 2, test=test)
            bench.play((cycle * 10 ** 29, "a"), (MOST, "b"))
            self.assertEqual(bench.levels, (0, GREATEST, GREATEST))
            bench.play((3 * 10 ** 20 + 2, "t"), (MOST, "a"), (MOST, "t"))
            self.assertEqual(bench.levels, (GREATEST + 10 ** 20,) * 3)
            self.assertEqual(bench.steps, cycle * 10 ** 29 + 3 * MOST + 3 * 10 ** 20 + 2)
            self.assertIsNone(bench.broken)

    def test_a_turn_that_is_waited_for(self):
        bench = Putters(Scheme.doubled(), GREATEST, 2)
        bench.play((1, "a"), (MOST, "b"))
        # The second one stays at its tell, for the first one is to tell before it.
        self.assertEqual([bench.levels, bench.steps], [(0, 0, 2), MOST + 1])
        self.assertEqual([bench.step("b"), bench.step("a"), bench.step("a"), bench.step("b")],
                         ["tell", "write", "tell", "tell"])
        self.assertEqual(bench.levels, (0, 2, 2))

    def test_names_and_first_state(self):
        for many in (1, 2, 3, 4):
            bench = Putters(scheme=Scheme.doubled(), n=3, many=many, at=MOST)
            self.assertEqual(state(bench), [None, (0, 0, 0), 0])
            self.assertIsNone(bench.play())
            self.assertIsNone(bench.play((0, "a"), (0, "t")))
            self.assertEqual([bench.step("t"), state(bench)], ["look", [None, (0, 0, 0), 1]])
        bench = Putters(Scheme.doubled(), 3, 2)
        self.assertEqual([bench.step("a") for _ in range(4)], ["number", "write", "tell", "number"])
        self.assertEqual([bench.step("t") for _ in range(4)], ["look", "read", "tell", "look"])
        bench = Putters(Scheme.doubled(), 3, 2, test="two")
        self.assertEqual([bench.step("b") for _ in range(5)], ["test", "number", "write", "tell", "test"])

    def test_breaks(self):
        bench = Putters(Scheme.doubled(), 1, 2, test="two")
        self.assertEqual(bench.play((1, "a"), (2, "b"), (1, "a")), (4, "over", 2))
        told = [(4, "over", 2), (0, 0, 2), 4]
        self.assertEqual(state(bench), told)
        self.assertEqual([bench.step("a"), bench.step("t"), bench.play((MOST, "t"))], [None, None, told[0]])
        self.assertEqual(state(bench), told)
        bench = Putters(Scheme.doubled(), 2, 2, tell="any")
        self.assertEqual(bench.play((1, "a"), (MOST, "b"), (MOST, "t")), (MOST + 3, "read", 1))
        self.assertEqual(state(bench), [(MOST + 3, "read", 1), (0, 1, 2), MOST + 3])

    def test_the_parts_are_kept(self):
        scheme = Scheme.doubled()
        bench = Putters(scheme, 3, 2)
        scheme.wrap, scheme.full, scheme.when = Form(1, 0), ("next",), "over"
        bench.play((99, "a"))
        self.assertEqual(bench.levels, (0, 3, 3))

    def test_wrong_inputs(self):
        self.assert_sizes(Putters)
        self.assert_decided(Putters)
        self.assert_right(Putters, tell="none", test="none")
        for wrong in NO_MANY:
            told = self.assert_error(NoHands, Putters, Scheme.doubled(), 3, wrong, tell="none", test="none", at=-1)
            self.assertEqual(told.part, "many")
        for wrong in NO_WORDS + ["far", "one", "low"]:
            told = self.assert_error(NoHands, Putters, Scheme.doubled(), 3, 2, tell=wrong, test="none", at=-1)
            self.assertEqual(told.part, "tell")
        for wrong in NO_WORDS + ["turn", "any", "each"]:
            told = self.assert_error(NoHands, Putters, Scheme.doubled(), 3, 2, test=wrong, at=-1)
            self.assertEqual(told.part, "test")
        for wrong in NO_STARTS:
            self.assertEqual(self.assert_error(NoSteps, Putters, Scheme.doubled(), 3, 2, at=wrong).at, 0)

    def test_wrong_steps(self):
        whole, broken = Putters(Scheme.doubled(), 3, 2), Putters(Scheme.doubled(), 1, 2, test="two")
        whole.play((4, "a"), (1, "b"))
        broken.play((1, "a"), (2, "b"), (1, "a"))
        self.assertIsNotNone(broken.broken)
        for bench in (whole, broken):
            told = state(bench)
            for wrong in NO_INTEGERS + ["c", "d", "p", "e", "ab", "A", ("a",), ["a"], 0]:
                self.assertEqual(self.assert_error(NoSteps, bench.step, wrong).at, 0)
            for wrong in NO_PIECES + [(1, "c"), (1, "p"), (0, "d")]:
                self.assertEqual(self.assert_error(NoSteps, bench.play, wrong).at, 1)
                self.assertEqual(self.assert_error(NoSteps, bench.play, (9, "a"), (9, "t"), wrong, (1, "b")).at, 3)
            self.assertEqual(state(bench), told)
        self.assertEqual(Putters(Scheme.doubled(), 3, 4).step("d"), "number")
        self.assertEqual(self.assert_error(NoSteps, Putters(Scheme.doubled(), 3, 1).step, "b").at, 0)


class PuttersVerdictTest(SeveralCase):

    def test_beside_the_rules(self):
        causes = {}
        for scheme in schemes_of((N, Form(2, 0), Form(3, 0), Form(0, 2), 2), MORE_FULLS, whens=("refuse",)):
            if plain_way(scheme) != "counters":
                continue
            for n, many, (tell, test) in product((1, 2, 3, 8, GREATEST), (1, 2, 3, 4), PUTTER_SWITCHES):
                verdict = putters_verdict(scheme, n, many, tell=tell, test=test)
                cause = "right"
                if not verdict_of(scheme, n):
                    cause = "scheme"
                elif many > 1 and test == "two":
                    cause = "test"
                elif many > 1 and tell == "any" and room_of(scheme, n) != 1:
                    cause = "tell"
                causes[cause] = True
                if (verdict.cause, bool(verdict)) != (cause, cause == "right"):
                    self.fail(f"{verdict.cause, cause, n, many, tell, test}")
                if cause in ("right", "scheme"):
                    self.assertEqual((verdict.start, verdict.run), (0, ()))
        self.assertEqual(set(causes), {"right", "scheme", "test", "tell"})

    def test_runs(self):
        schemes = counter_schemes() + [(Scheme.doubled(), GREATEST), (Scheme.spare(), GREATEST)]
        for scheme, n in schemes:
            for many, (tell, test) in product((1, 2, 3, 4), PUTTER_SWITCHES):
                verdict = putters_verdict(scheme, n, many, tell=tell, test=test)
                if verdict:
                    continue
                steps = self.assert_run(verdict, plain_modulus(scheme.wrap, n), n)
                bench = Putters(scheme, n, many, tell=tell, test=test, at=verdict.start)
                self.assertIsNone(bench.play(*less_one_step(verdict.run)))
                self.assertEqual(bench.play((1, verdict.run[-1][1]))[:2],
                                 (steps, {"test": "over", "tell": "read"}[verdict.cause]))
                if n < GREATEST:
                    plain = PlainPutters(scheme, n, many, room_of(scheme, n), tell, test, verdict.start)
                    self.assertIsNone(plain.play(*less_one_step(verdict.run)))
                    self.assertEqual(plain.play((1, verdict.run[-1][1])), bench.broken)

    def test_beside_a_search_of_all_orders(self):
        found = {}
        for scheme, n in counter_schemes((1, 2, 3)):
            if plain_modulus(scheme.wrap, n) > 3:
                continue
            for many, (tell, test) in product((1, 2), PUTTER_SWITCHES):
                broken = self.search(scheme, n, many, tell, test)
                found[broken] = True
                self.assertIs(bool(putters_verdict(scheme, n, many, tell=tell, test=test)), not broken)
        self.assertEqual(set(found), {True, False})

    def search(self, scheme, n, many, tell, test):
        """Whether an order of steps breaks a plain model."""
        def key(plain):
            taken = plain.taken
            names = {hand: cycle[plain.place[hand]] for hand, cycle in plain.cycles.items() if hand != "t"}
            # The number is of no account any more where it has been written and no turn is waited for.
            named = ("write", "tell") if tell == "turn" else ("write",)
            mine = [plain.mine[hand] - taken if name in named else None for hand, name in names.items()]
            cells = [None if cell is None or cell <= taken else cell - taken for cell in plain.slots]
            return (taken % plain.modulus, plain.given - taken, plain.told - taken, plain.reads - taken,
                    *plain.place.values(), *mine, *cells)
        first = PlainPutters(scheme, n, many, room_of(scheme, n), tell, test)
        new, met = [first], {key(first)}
        while new:
            old = new.pop()
            for hand in "abcd"[:many] + "t":
                plain = deepcopy(old)
                plain.step(hand)
                if plain.broken:
                    return True
                if key(plain) not in met:
                    met.add(key(plain))
                    new.append(plain)
        return False

    def test_kinds_of_values(self):
        verdict = putters_verdict(scheme=Scheme.doubled(), n=4, many=2, tell="any", test="one")
        self.assertIs(type(verdict), SeveralVerdict)
        self.assertEqual([type(verdict.run), *map(type, verdict.run)], [tuple] * (1 + len(verdict.run)))
        self.assert_integer(verdict.start, 0)
        self.assertIs(bool(verdict), False)

    def test_the_example(self):
        self.assertEqual([putters_verdict(Scheme.doubled(), 4, 2).cause,
                          putters_verdict(Scheme.doubled(), 4, 2, tell="any").cause,
                          fan_verdict(Scheme.doubled(), 4, 2, full="low").cause], ["right", "tell", "low"])

    def test_wrong_inputs(self):
        self.assert_sizes(putters_verdict)
        self.assert_decided(putters_verdict)
        for scheme, n in ((Scheme.doubled(), 3),) + NOT_RIGHT:
            for wrong in NO_MANY:
                told = self.assert_error(NoHands, putters_verdict, scheme, n, wrong, tell="none", test="none")
                self.assertEqual(told.part, "many")
            for wrong in NO_WORDS:
                told = self.assert_error(NoHands, putters_verdict, scheme, n, 2, tell=wrong, test="none")
                self.assertEqual(told.part, "tell")
                self.assertEqual(self.assert_error(NoHands, putters_verdict, scheme, n, 1, test=wrong).part, "test")


class FanTest(SeveralCase):

    def test_pieces_beside_a_plain_model(self):
        chance = Random(5)
        kinds = {}
        for scheme, n in counter_schemes():
            for many, full, at in product((1, 2, 3, 4), ("far", "low"), starts(scheme, n)):
                fan = Fan(scheme, n, many, full=full, at=at)
                plain = PlainFan(scheme, n, many, room_of(scheme, n), full, at)
                pieces = [(chance.choice((0, 1, 1, 2, 3, 5, 8, 20)), chance.choice("abcd"[:many] + "pp"))
                          for _ in range(12)]
                for piece in pieces:
                    self.assertEqual(fan.play(piece), plain.play(piece))
                    self.assertEqual(fan_state(fan, many), plain.state())
                whole = Fan(scheme, n, many, full=full, at=at)
                self.assertEqual(whole.play(*pieces), plain.broken)
                self.assertEqual(fan_state(whole, many), plain.state())
                kinds[full, plain.broken is None] = True
        self.assertEqual(set(kinds), {("far", True), ("low", True), ("low", False)})

    def test_great_pieces(self):
        fan = Fan(scheme=Scheme.doubled(), n=GREATEST, many=3, at=MOST)
        self.assertIsNone(fan.play((MOST, "p"), (10 ** 29, "a"), (MOST, "b"), (5, "c"), (MOST, "p")))
        self.assertEqual(fan_state(fan, 3), [None, GREATEST + 5, 3 * MOST + 10 ** 29 + 5, [10 ** 29, GREATEST, 5]])
        fan = Fan(Scheme.doubled(), GREATEST, 2, full="low", at=2 * GREATEST - 1)
        # The second taker's counter has wrapped, so the first one is forgotten.
        self.assertEqual(fan.play((1, "p"), (1, "b"), (MOST, "p")), (GREATEST + 2, GREATEST + 1))
        self.assertEqual(fan_state(fan, 2), [(GREATEST + 2, GREATEST + 1), GREATEST + 1, GREATEST + 2, [0, 1]])
        for cut in (1, 2, 10 ** 20, GREATEST - 1):
            other = Fan(Scheme.doubled(), GREATEST, 2, full="low", at=2 * GREATEST - 1)
            other.play((1, "p"), (1, "b"), (cut, "p"))
            self.assertIsNone(other.broken)
            self.assertEqual(other.play((MOST, "p")), fan.broken)

    def test_the_start_is_zero_unless_told(self):
        pieces = ((3, "p"), (3, "a"), (3, "b"), (2, "p"), (2, "b"), (9, "p"))
        # From 0 on the second taker's counter is 5, from 1 on it has wrapped to 0.
        told = [Fan(Scheme.doubled(), 3, 2, full="low", **at) for at in ({}, {"at": 0}, {"at": 1})]
        played = [fan.play(*pieces) for fan in told]
        self.assertEqual([played[0], fan_state(told[0], 2)], [played[1], fan_state(told[1], 2)])
        self.assertEqual([played[0], played[2]], [None, (15, 7)])

    def test_a_taker_that_has_taken_all(self):
        fan = Fan(Scheme.doubled(), 3, 2)
        fan.play((5, "a"))
        self.assertEqual(fan_state(fan, 2), [None, 0, 5, [0, 0]])
        fan.play((2, "p"), (5, "a"), (1, "a"))
        self.assertEqual(fan_state(fan, 2), [None, 2, 13, [2, 0]])
        fan.play((5, "p"), (9, "b"))
        self.assertEqual(fan_state(fan, 2), [None, 3, 27, [2, 3]])

    def test_behind_a_break(self):
        fan = Fan(Scheme.doubled(), 1, 2, full="low", at=1)
        self.assertEqual(fan.play((1, "p"), (1, "b"), (5, "p"), (5, "a")), (3, 2))
        told = [(3, 2), 2, 3, [0, 1]]
        self.assertEqual(fan_state(fan, 2), told)
        self.assertEqual([fan.play((MOST, "p")), fan.play((1, "a")), fan.play()], [(3, 2)] * 3)
        self.assertEqual(fan_state(fan, 2), told)
        for number in (*fan.broken, fan.put_count, fan.deeds, fan[0]):
            self.assertIs(type(number), int)

    def test_the_parts_are_kept(self):
        scheme = Scheme.doubled()
        fan = Fan(scheme, 3, 1)
        scheme.wrap, scheme.full, scheme.when = Form(1, 0), ("next",), "over"
        fan.play((9, "p"))
        self.assertEqual(fan.put_count, 3)

    def test_wrong_inputs(self):
        self.assert_sizes(Fan)
        self.assert_decided(Fan)
        self.assert_right(Fan, full="none")
        for wrong in NO_MANY:
            told = self.assert_error(NoHands, Fan, Scheme.doubled(), 3, wrong, full="none", at=-1)
            self.assertEqual(told.part, "many")
        for wrong in NO_WORDS + ["turn", "one"]:
            self.assertEqual(self.assert_error(NoHands, Fan, Scheme.doubled(), 3, 2, full=wrong, at=-1).part, "full")
        for wrong in NO_STARTS:
            self.assertEqual(self.assert_error(NoSteps, Fan, Scheme.doubled(), 3, 2, at=wrong).at, 0)

    def test_wrong_pieces_and_takers(self):
        broken = Fan(Scheme.doubled(), 1, 2, full="low", at=1)
        broken.play((1, "p"), (1, "b"), (1, "p"))
        self.assertIsNotNone(broken.broken)
        for fan in (Fan(Scheme.doubled(), 3, 2), broken):
            told = fan_state(fan, 2)
            for wrong in NO_PIECES + [(1, "c"), (0, "d"), (1, "t")]:
                self.assertEqual(self.assert_error(NoSteps, fan.play, wrong).at, 1)
                self.assertEqual(self.assert_error(NoSteps, fan.play, (1, "p"), (1, "a"), (0, "b"), wrong).at, 4)
            for wrong in NO_INTEGERS + [-1, 2, 3, GREATEST, slice(0, 1), Form(0, 0)]:
                self.assertEqual(self.assert_error(NoHands, fan.__getitem__, wrong).part, "many")
            self.assertEqual(fan_state(fan, 2), told)
        self.assertEqual(Fan(Scheme.doubled(), 3, 4)[3], 0)


class FanVerdictTest(SeveralCase):

    def test_beside_the_rules(self):
        causes = {}
        for scheme in schemes_of((N, Form(2, 0), Form(3, 0), Form(0, 2), 2), MORE_FULLS, whens=("refuse",)):
            if plain_way(scheme) != "counters":
                continue
            for n, many, full in product((1, 2, 3, 8, GREATEST), (1, 2, 3, 4), ("far", "low")):
                verdict = fan_verdict(scheme, n, many, full=full)
                cause = "right" if many == 1 or full == "far" else "low"
                cause = cause if verdict_of(scheme, n) else "scheme"
                causes[cause] = True
                self.assertEqual((verdict.cause, bool(verdict)), (cause, cause == "right"))
                if cause != "low":
                    self.assertEqual((verdict.start, verdict.run), (0, ()))
        self.assertEqual(set(causes), {"right", "scheme", "low"})

    def test_runs(self):
        for scheme, n in counter_schemes() + [(Scheme.doubled(), GREATEST), (Scheme.spare(), GREATEST)]:
            for many in (2, 3, 4):
                verdict = fan_verdict(scheme, n, many, full="low")
                steps = self.assert_run(verdict, plain_modulus(scheme.wrap, n), n)
                fan = Fan(scheme, n, many, full="low", at=verdict.start)
                self.assertIsNone(fan.play(*less_one_step(verdict.run)))
                self.assertEqual(fan.play((1, verdict.run[-1][1]))[0], steps)
                if n < GREATEST:
                    plain = PlainFan(scheme, n, many, room_of(scheme, n), "low", verdict.start)
                    self.assertIsNone(plain.play(*less_one_step(verdict.run)))
                    self.assertEqual(plain.play((1, verdict.run[-1][1])), fan.broken)

    def test_far_is_never_broken(self):
        chance = Random(6)
        for scheme, n in counter_schemes():
            for many in (1, 2, 3, 4):
                plain = PlainFan(scheme, n, many, room_of(scheme, n), "low" if many == 1 else "far", 3)
                for _ in range(200):
                    plain.deed(chance.choice("abcd"[:many] + "pp"))
                self.assertIsNone(plain.broken)

    def test_kinds_of_values(self):
        verdict = fan_verdict(scheme=Scheme.doubled(), n=4, many=2, full="low")
        self.assertIs(type(verdict), SeveralVerdict)
        self.assertEqual([type(verdict.run), *map(type, verdict.run)], [tuple] * (1 + len(verdict.run)))
        self.assertIs(type(verdict.start), int)
        self.assertIs(bool(fan_verdict(Scheme.doubled(), 4, 2)), True)

    def test_wrong_inputs(self):
        self.assert_sizes(fan_verdict)
        self.assert_decided(fan_verdict)
        for scheme, n in ((Scheme.doubled(), 3),) + NOT_RIGHT:
            for wrong in NO_MANY:
                self.assertEqual(self.assert_error(NoHands, fan_verdict, scheme, n, wrong, full="none").part, "many")
            for wrong in NO_WORDS:
                self.assertEqual(self.assert_error(NoHands, fan_verdict, scheme, n, 1, full=wrong).part, "full")
