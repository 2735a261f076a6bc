"""What point 2 says of the whole program."""

import inspect
import unittest
from itertools import product

from ringindexes.bench import Bench
from ringindexes.blocks import BlockRing, block_break, block_parts, blocks_right
from ringindexes.changes import Menu, least_sets, reason_of
from ringindexes.checker import check_paper
from ringindexes.console import Console
from ringindexes.counters import Counter
from ringindexes.errors import RingError
from ringindexes.forms import Form
from ringindexes.handcheck import hands_verdict
from ringindexes.hands import Hands
from ringindexes.late import Log, Reader, belief_of
from ringindexes.papers import hands_paper, paper_of
from ringindexes.queues import Queue, Watch
from ringindexes.rings import Ring, Slots
from ringindexes.rooms import room_of
from ringindexes.runs import Run
from ringindexes.schemes import Scheme
from ringindexes.sessions import Session
from ringindexes.several import Fan, Putters, fan_verdict, putters_verdict
from ringindexes.sizes import sizes_of, widths_of
from ringindexes.sizesets import SizeSet
from ringindexes.slots import gap_of, modulus_of, slot_of
from ringindexes.tracks import Track
from ringindexes.verdicts import verdict_of
from ringindexes.windows import alike_of, window_of
from tests.helpers import calls_of
from tests.models import N, scheme_of
from tests.step_models import SWITCHES, switches_told

GREATEST = 10 ** 30
MOST = 10 ** 40


def objects():
    """An object of each class."""
    scheme, log = Scheme.doubled(), Log(Scheme.counted().remade(when="over"), 4)
    return [Form(1, 0), Counter(8, 3), scheme, Run((1, "put")), SizeSet.full_set(), Slots(3), Ring(scheme, 3), Queue(),
            Watch(scheme, 3), Track(scheme, 3), verdict_of(scheme, 3), BlockRing(scheme, 3), log, Reader(log),
            belief_of(Scheme.counted().remade(when="over"), 4, 3), Hands(scheme), Bench(Hands(scheme), 3),
            hands_verdict(Hands(scheme), 3), Putters(scheme, 3, 2), Fan(scheme, 3, 2), putters_verdict(scheme, 3, 2),
            Menu(scheme), Session(), Session().trial(), Console(), RingError("x")]


def great_calls():
    """Calls with great sizes, times and numbers."""
    drops = Scheme.counted().remade(when="over")
    wide = scheme_of(100, "mask", "count", ("count", "=", Form(0, 4)))
    for scheme in (Scheme.spare(), Scheme.doubled(), Scheme.masked(100), Scheme.counted(), Scheme.noted(), drops, wide,
                   Scheme.doubled().remade(wrap=Form(3, 0)), scheme_of(100), scheme_of(Form(4, 20), "rest", "count", ("note",))):
        for call in (modulus_of, room_of, window_of, alike_of, verdict_of, paper_of):
            yield call, (scheme, GREATEST), {}
        for call in (slot_of, gap_of):
            yield call, (scheme, GREATEST, 3 * 10 ** 29), {}
        yield block_parts, (scheme.remade(slot="rest"), GREATEST, MOST, 10 ** 29), {}
        yield Track(scheme, GREATEST).play, (Run((MOST, "pair"), (MOST, "put"), (MOST, "pair"), (MOST, "take")),), {}
    for scheme in (Scheme.doubled(), Scheme.counted(), Scheme.noted(), Scheme.spare()):
        yield blocks_right, (scheme, GREATEST), {}
        for values in SWITCHES:
            hands = Hands(scheme, **switches_told(values))
            yield hands_verdict, (hands, GREATEST), {}
            yield check_paper, (hands_paper(hands, GREATEST),), {}
            yield Bench(hands, GREATEST, at=MOST).play, ((MOST, "p"), (MOST, "t"), (MOST, "p"), (10 ** 29, "t")), {}
        yield check_paper, (paper_of(scheme, GREATEST),), {}
    yield block_break, (scheme_of(Form(1, 3), full=("diff", "=", Form(0, 2))), GREATEST), {}
    for tell, test in product(("turn", "any"), ("one", "two")):
        yield (Putters(Scheme.doubled(), GREATEST, 4, tell=tell, test=test).play,
               ((MOST, "a"), (MOST, "b"), (MOST, "t"), (5, "c"), (MOST, "d"), (MOST, "c"), (MOST, "t")), {})
        yield putters_verdict, (Scheme.doubled(), GREATEST, 4), {"tell": tell, "test": test}
    for full in ("far", "low"):
        yield Fan(Scheme.doubled(), GREATEST, 4, full=full, at=MOST).play, ((MOST, "p"), (MOST, "a"), (MOST, "p")), {}
        yield fan_verdict, (Scheme.doubled(), GREATEST, 4), {"full": full}
    log = Log(drops, GREATEST)
    log += MOST
    yield Reader(log, back=MOST), (), {}
    yield belief_of, (drops, GREATEST, MOST), {}
    menu = Menu(Scheme.masked(100), ("wrap", Form(2, 0)), ("slot", "off"), ("full", ("diff", "=", Form(0, 2))))
    yield least_sets, (menu, GREATEST), {}
    yield reason_of, (menu, [2], GREATEST), {}


class ConventionsTest(unittest.TestCase):

    def test_never_equal_to_objects_of_other_classes(self):
        others = [None, True, 0, 1, 3, "", "N", (), (1,), [], [1], {}, object(), 1.0, b""]
        for one, other in product(objects(), objects() + others):
            if type(one) is not type(other) and not {type(one), type(other)} <= {Form, Counter, Run}:
                self.assertIs(one == other, False, f"{one} {other}")
                self.assertIs(other == one, False)
                self.assertIs(one != other, True)

    def test_great_numbers_do_not_make_a_call_long(self):
        for call, args, told in great_calls():
            self.assertLess(calls_of(call, *args, **told), 3000, f"{call} {args}")

    def test_parameters_that_must_be_named(self):
        for call, names in ((Scheme, ["wrap", "slot", "empty", "full", "when"]),
                            (Hands, ["writing", "reading", "looking", "telling"]), (Bench, ["at"]), (Reader, ["back"]),
                            (Putters, ["tell", "test", "at"]), (Fan, ["full", "at"]), (putters_verdict, ["tell", "test"]),
                            (fan_verdict, ["full"])):
            parameters = inspect.signature(call).parameters.values()
            self.assertEqual([each.name for each in parameters if each.kind is each.KEYWORD_ONLY], names)

    def test_equal_calls_tell_the_same(self):
        scheme = Scheme.read("M = 2**3; slot rest; empty same; full diff = N; when refuse")
        self.assertEqual(sizes_of(scheme), sizes_of(scheme))
        self.assertEqual(widths_of(scheme, 3), widths_of(scheme, 3))
        one, other = verdict_of(scheme, 3), verdict_of(scheme, 3)
        self.assertEqual((one.cause, one.room, one.window, one.run), (other.cause, other.room, other.window, other.run))
        self.assertIsNot(one.run, one.run)
        hands = Hands(Scheme.counted(), telling="two")
        self.assertEqual(hands_paper(hands, 4), hands_paper(hands, 4))

    def test_what_was_made_of_a_scheme_keeps_its_parts(self):
        scheme = Scheme.doubled()
        bench, fan, putters = Bench(Hands(scheme), 3), Fan(scheme, 3, 2), Putters(scheme, 3, 2)
        menu, session, track = Menu(scheme, ("when", "drop")), Session(), Track(scheme, 3)
        session["a"] = scheme
        scheme.wrap, scheme.full, scheme.when = N, ("next",), "over"
        bench.play((99, "p")), fan.play((99, "p")), putters.play((99, "a")), track.play(Run((99, "put")))
        self.assertEqual([bench.levels[1], fan.put_count, putters.levels[2], track.held], [3, 3, 3, 3])
        self.assertEqual([menu([]), session["a"]], [Scheme.doubled()] * 2)
