"""Benches: points 49 and 50, and (h) of point 3."""

from random import Random

from ringindexes.bench import Bench
from ringindexes.errors import NoSize, NoSteps, NotRight
from ringindexes.forms import Form
from ringindexes.hands import Hands
from ringindexes.rooms import room_of
from ringindexes.schemes import Scheme
from ringindexes.slots import modulus_of
from ringindexes.verdicts import verdict_of
from ringindexes.windows import alike_of
from tests.helpers import NO_INTEGERS, NO_SIZES, RingCase
from tests.models import N, plain_modulus, scheme_of
from tests.step_models import SWITCHES, PlainBench, right_schemes, switches_told

GREATEST = 10 ** 30
MOST = 10 ** 40
KNOWN = {"counters": Scheme.doubled(), "count": Scheme.counted(), "note": Scheme.noted()}
NO_HANDS = NO_INTEGERS + [0, "P", "T", "a", "pt", "p ", ("p",), ["p"], Form(1, 0), Scheme.spare()]
NO_STARTS = NO_INTEGERS + [-1, MOST + 1, Form(0, 1)]
NO_PIECES = NO_INTEGERS + ["p", (1,), (1, "p", 1), [1, "p"], ("p", 1), (-1, "p"), (MOST + 1, "p"), (1, "put"),
                           (True, "p"), (None, "t"), (1, None), (1, ["p"]), ((1, "p"),), Form(1, 0)]


def state(bench):
    return [bench.broken, bench.levels, bench.steps]


def starts(scheme, n):
    return (0, plain_modulus(scheme.wrap, n) - 1, 10 ** 40)


class BesideAPlainModelTest(RingCase):

    def both(self, scheme, n, values, at):
        told = switches_told(values)
        return Bench(Hands(scheme, **told), n, at=at), PlainBench(scheme, n, **told, at=at)

    def test_single_steps(self):
        chance = Random(1)
        kinds = {}
        for scheme, n in right_schemes((1, 2, 3, 5)):
            for values in SWITCHES:
                for at in starts(scheme, n):
                    bench, plain = self.both(scheme, n, values, at)
                    for _ in range(40):
                        hand = chance.choice("pt")
                        name = bench.step(hand)
                        self.assertEqual(name, plain.step(hand))
                        self.assertEqual(state(bench), plain.state())
                        kinds[name] = True
        self.assertEqual(set(kinds), {"look", "write", "read", "tell", "copy", "set", "note", None})

    def test_long_turns_of_single_steps(self):
        # Turns in which a hand goes over the whole ring, and which leave it at each of its steps.
        for scheme, n in right_schemes((1, 2, 3)):
            for values in SWITCHES:
                for turns in ((30, 2, 1, 30), (3, 40, 5, 9), (6, 7, 1, 1, 3, 50), (1, 9, 2, 9, 3, 9, 4, 9)):
                    bench, plain = self.both(scheme, n, values, 1)
                    for at, times in enumerate(turns):
                        for _ in range(times):
                            self.assertEqual(bench.step("pt"[at % 2]), plain.step("pt"[at % 2]))
                    self.assertEqual(state(bench), plain.state())

    def test_pieces(self):
        chance = Random(2)
        kinds = {}
        for scheme, n in right_schemes((1, 2, 3, 4)):
            for values in SWITCHES:
                for at in starts(scheme, n):
                    bench, plain = self.both(scheme, n, values, at)
                    pieces = [(chance.choice((0, 1, 2, 3, 5, 7, 12, 40)), chance.choice("pt")) for _ in range(8)]
                    for piece in pieces:
                        self.assertEqual(bench.play(piece), plain.play(piece))
                        self.assertEqual(state(bench), plain.state())
                    whole, _ = self.both(scheme, n, values, at)
                    self.assertEqual(whole.play(*pieces), plain.broken)
                    self.assertEqual(state(whole), plain.state())
                    kinds[plain.broken is None] = True
        self.assertEqual(set(kinds), {True, False})


class GreatPiecesTest(RingCase):

    def test_pieces_that_are_cut_in_two(self):
        for way, scheme in KNOWN.items():
            for n in (1, 2, 7, 10 ** 12, GREATEST):
                for values in SWITCHES:
                    self.assert_cut(Hands(scheme, **switches_told(values)), n)

    def assert_cut(self, hands, n):
        """However pieces are cut, they lead to the same."""
        pieces = ((2 * n + 1, "p"), (n + 2, "t"), (5, "p"), (3 * n, "t"), (MOST, "p"), (MOST, "t"))
        for at in (0, 3 * n - 1):
            whole = Bench(hands, n, at=at)
            told = whole.play(*pieces)
            for first in (1, 2, 3, 4, n, 2 * n - 1):
                cut = Bench(hands, n, at=at)
                for times, hand in pieces:
                    cut.play((min(first, times), hand), (times - min(first, times), hand))
                self.assertEqual(cut.broken, told)
                self.assertEqual(state(cut), state(whole))

    def test_levels_behind_great_pieces(self):
        for way, scheme in KNOWN.items():
            for telling, cycle in (("one", 3), ("two", 3 if way == "counters" else 4)):
                bench = Bench(Hands(scheme, telling=telling), GREATEST, at=MOST)
                self.assertIsNone(bench.play((MOST, "p")))
                self.assertEqual(bench.levels, (0, GREATEST, GREATEST))
                self.assertIsNone(bench.play((cycle * 10 ** 29 + 2, "t")))
                self.assertEqual(bench.levels, (10 ** 29, GREATEST, GREATEST))
                self.assertIsNone(bench.play((cycle * 10 ** 28, "p"), (MOST, "t"), (MOST, "t")))
                self.assertEqual(bench.levels, (GREATEST + 10 ** 28,) * 3)
                self.assertEqual(bench.steps, 3 * MOST + cycle * (10 ** 29 + 10 ** 28) + 2)

    def test_a_hand_that_never_stays(self):
        # The copies of the start tell of no value for good, so the putter goes on.
        for way, cycle in (("count", 3), ("note", 3)):
            bench = Bench(Hands(KNOWN[way], looking="kept"), GREATEST)
            self.assertIsNone(bench.play((MOST, "p")))
            written = MOST // cycle
            self.assertEqual([bench.levels, bench.steps], [(0, written, written + (MOST % cycle == 2)), MOST])
            # The first value's slot has come again, so its read is wrong: it looks twice and reads.
            self.assertEqual(bench.play((MOST, "t")), (MOST + 3, 1))
        bench = Bench(Hands(Scheme.doubled(), looking="kept"), GREATEST)
        bench.play((MOST, "p"))
        self.assertEqual(bench.levels, (0, GREATEST, GREATEST))

    def test_reads_that_become_wrong_in_a_great_piece(self):
        # From its start the counters 5, 6 and 7 have the gap 3 at this size, all others 5 and more.
        scheme = scheme_of(3, "rest", "count", ("count", "=", Form(0, 3)))
        self.assertEqual(alike_of(scheme, 5), (5, 3))
        hands = Hands(scheme, looking="kept")
        for at in range(8):
            for written in range(1, 15):
                bench, plain = Bench(hands, 5, at=at), PlainBench(scheme, 5, looking="kept", at=at)
                self.assertEqual(bench.play((3 * written, "p"), (MOST, "t")), plain.play((3 * written, "p"), (99, "t")))
                self.assertEqual(state(bench), plain.state())

    def test_a_great_ring_that_is_overwritten(self):
        hands = Hands(Scheme.counted(), looking="kept")
        for over in (0, 1, 5, 10 ** 20):
            bench = Bench(hands, GREATEST)
            bench.play((3 * (GREATEST + over), "p"), (MOST, "t"))
            due = 1 if over else GREATEST + 1
            # One look to copy, then three steps for each value and two for the wrong read.
            self.assertEqual(bench.broken, (3 * (GREATEST + over) + 1 + 3 * (due - 1) + 2, due))
            self.assertEqual(bench.levels, (due - 1, GREATEST + over, GREATEST + over))


class BenchTest(RingCase):

    def test_the_example(self):
        bench = Bench(Hands(Scheme.doubled()), 2)
        self.assertEqual([bench.step("p"), bench.step("t"), bench.step("p"), bench.step("p"), bench.levels,
                          bench.steps], ["look", "look", "write", "tell", (0, 1, 1), 4])

    def test_at_first(self):
        for scheme in KNOWN.values():
            for at in (0, 1, 7, MOST):
                bench = Bench(hands=Hands(scheme), n=4, at=at)
                self.assertEqual(state(bench), [None, (0, 0, 0), 0])
                self.assertIsNone(bench.play())
                self.assertIsNone(bench.play((0, "p"), (0, "t")))
                self.assertEqual(state(bench), [None, (0, 0, 0), 0])

    def test_names_of_the_steps(self):
        for way, telling in (("counters", ["tell"]), ("count", ["copy", "set"]), ("note", ["tell", "note"])):
            for values in SWITCHES:
                bench = Bench(Hands(KNOWN[way], **switches_told(values)), 3)
                told = telling if values[3] == "two" else ["tell"]
                cycle = ["look", "write", *told] if values[0] == "first" else ["look", *told, "write"]
                self.assertEqual([bench.step("p") for _ in cycle * 2], cycle * 2)
                cycle = ["look", "read", *told] if values[1] == "first" else ["look", *told, "read"]
                looks = ["look"] if values[2] == "kept" else []
                self.assertEqual([bench.step("t") for _ in looks + cycle], looks + cycle)

    def test_a_break(self):
        bench = Bench(Hands(Scheme.doubled(), writing="last"), 2)
        self.assertEqual([bench.step(hand) for hand in "pptt"], ["look", "tell", "look", "read"])
        told = [(4, 1), (0, 1, 0), 4]
        self.assertEqual(state(bench), told)
        # Behind a break nothing is done.
        self.assertEqual([bench.step("p"), bench.step("t"), bench.play((9, "p")), bench.play()],
                         [None, None, (4, 1), (4, 1)])
        self.assertEqual(state(bench), told)
        for number in bench.broken + bench.levels + (bench.steps,):
            self.assertIs(type(number), int)

    def test_a_break_within_pieces(self):
        bench = Bench(Hands(Scheme.doubled(), writing="last"), GREATEST)
        self.assertEqual(bench.play((2, "p"), (MOST, "t"), (MOST, "p")), (4, 1))
        self.assertEqual([bench.levels, bench.steps], [(0, 1, 0), 4])

    def test_rooms_of_one_and_just_below_the_modulus(self):
        for scheme, n, room in ((scheme_of(N, full=("diff", "=", Form(0, 1))), 5, 1), (Scheme.spare(), 5, 4),
                                (scheme_of(Form(0, 1), "rest", "note", ("note",)), 5, 1),
                                (scheme_of(Form(0, 1), "rest", "count", ("count", "=", Form(0, 1))), 5, 1),
                                (scheme_of(Form(0, 2), full=("next",)), GREATEST, 1)):
            self.assertEqual(room_of(scheme, n), room)
            for values in SWITCHES:
                if values == ("first", "first", "each", "one"):
                    bench = Bench(Hands(scheme), n, at=modulus_of(scheme, n) - 1)
                    bench.play((MOST, "p"))
                    self.assertEqual(bench.levels, (0, room, room))
                    self.assertIsNone(bench.play((MOST, "t"), (MOST, "p"), (MOST, "t")))
                    self.assertEqual(bench.levels, (2 * room,) * 3)

    def test_the_hands_are_copied(self):
        hands = Hands(Scheme.counted())
        bench = Bench(hands, 2)
        hands.writing, hands.telling, hands.looking = "last", "two", "kept"
        self.assertEqual([bench.step("p") for _ in range(4)], ["look", "write", "tell", "look"])
        self.assertEqual(bench.play((99, "p"), (99, "t")), None)
        self.assertEqual(bench.levels, (2, 2, 2))

    def test_wrong_sizes(self):
        for wrong in NO_SIZES:
            with self.subTest(wrong=wrong):
                self.assert_error(NoSize, Bench, Hands(Scheme.doubled()), wrong)
                self.assert_error(NoSize, Bench, Hands(scheme_of(Form(0, 0))), wrong, at=-1)

    def test_schemes_that_are_not_right(self):
        for scheme, n in ((scheme_of(Form(0, 0)), 3), (scheme_of(N, full=("diff", "=", Form(0, 0))), 3),
                          (scheme_of(Form(3, 0), "off"), GREATEST), (scheme_of(N, full=("diff", "=", N)), 3),
                          (scheme_of(Form(2, 1)), 3), (Scheme.spare(), 1)):
            cause = verdict_of(scheme, n).cause
            self.assertNotEqual(cause, "right")
            for at in (0, -1, True):
                self.assertEqual(self.assert_error(NotRight, Bench, Hands(scheme), n, at=at).why, cause)

    def test_starts_that_are_none(self):
        for wrong in NO_STARTS:
            with self.subTest(wrong=wrong):
                self.assertEqual(self.assert_error(NoSteps, Bench, Hands(Scheme.doubled()), 3, at=wrong).at, 0)

    def broken_and_whole(self):
        whole = Bench(Hands(Scheme.doubled()), 3)
        whole.play((4, "p"))
        broken = Bench(Hands(Scheme.doubled(), writing="last"), 3)
        broken.play((2, "p"), (2, "t"))
        return whole, broken

    def test_hands_that_are_none(self):
        for bench in self.broken_and_whole():
            told = state(bench)
            for wrong in NO_HANDS:
                with self.subTest(wrong=wrong):
                    self.assertEqual(self.assert_error(NoSteps, bench.step, wrong).at, 0)
            self.assertEqual(state(bench), told)

    def test_pieces_that_are_none(self):
        for bench in self.broken_and_whole():
            told = state(bench)
            for wrong in NO_PIECES:
                with self.subTest(wrong=wrong):
                    self.assertEqual(self.assert_error(NoSteps, bench.play, wrong).at, 1)
                    self.assertEqual(self.assert_error(NoSteps, bench.play, (1, "p"), (1, "t"), wrong, (2, "p")).at, 3)
                    self.assertEqual(self.assert_error(NoSteps, bench.play, (1, "p"), wrong, None).at, 2)
            self.assertEqual(state(bench), told)
        self.assertIsNone(self.broken_and_whole()[0].play((MOST, "p"), (0, "t")))
