"""Late takers: points 44 to 47, and (f) of point 3."""

from itertools import islice

from ringindexes.counters import Counter
from ringindexes.errors import NoLag, NoRing, NoSize, NotDecided, Outside, TooLong
from ringindexes.forms import Form
from ringindexes.late import Belief, Log, Reader, belief_of, place_lags, right_lags
from ringindexes.schemes import Scheme
from ringindexes.sizesets import SizeSet
from tests.helpers import NO_INTEGERS, NO_SIZES, RingCase
from tests.models import N, plain_modulus, plain_slot, scheme_of

GREATEST = 10 ** 30
MOST = 10 ** 40
DOUBLED = Form(2, 0)
NO_LAGS = NO_INTEGERS + [-1, -MOST, Form(0, 1), Counter(8, 1), Scheme.spare()]


def log_scheme(wrap, slot="rest", when="over", **parts):
    return scheme_of(wrap, slot, when=when, **parts)


# Schemes of logs with small sizes: n divides M, and is M or its half if the slots are off.
LOGS = [(log_scheme(Form(slope, 0)), n) for slope in (1, 2, 3, 4) for n in (1, 2, 3, 5, 8)]
LOGS += [(log_scheme(Form(slope, 0), "off"), n) for slope in (1, 2) for n in (1, 2, 3, 5, 8)]
LOGS += [(log_scheme(width, slot), 2 ** k) for slot in ("rest", "mask") for width in (1, 2, 3, 4)
         for k in range(width + 1)]
LOGS += [(log_scheme(3, "off"), n) for n in (4, 8)] + [(log_scheme(Form(1, 2)), n) for n in (1, 2)]
LOGS += [(log_scheme(Form(0, 12)), n) for n in (1, 2, 3, 4, 6, 12)]


def no_logs():
    """Schemes with sizes at which there are rings, but no logs."""
    yield from ((Scheme.counted(), 3), (Scheme.counted().remade(when="drop"), 3), (log_scheme(N, when="drop"), 2),
                (log_scheme(Form(1, 1)), 3), (log_scheme(Form(1, -1)), 3), (log_scheme(3), 3),
                (log_scheme(3), GREATEST), (log_scheme(Form(3, 0), "off"), 3), (log_scheme(3, "off"), 2),
                (log_scheme(3, "mask"), 3), (log_scheme(3, "mask"), 16))


class PlainLog:
    """Slots into which the values 1, 2, 3 .. are written one by one."""

    def __init__(self, scheme, n):
        self.slot, self.modulus, self.n = scheme.slot, plain_modulus(scheme.wrap, n), n
        self.cells = [0] * n
        self.count = 0

    def put(self, many):
        for _ in range(many):
            self.cells[plain_slot(self.slot, self.n, self.count % self.modulus)] = self.count + 1
            self.count += 1

    def state(self):
        return [self.count, sum(cell > 0 for cell in self.cells), self.cells]


class PlainReader:
    """A reader as point 45 tells it, by a counter that wraps."""

    def __init__(self, log, back):
        self.log, self.start, self.gone = log, log.count - back, 0
        self.t = self.start % log.modulus

    def believed(self):
        return (self.log.count - self.t) % self.log.modulus

    def read(self):
        there, lost = self.believed(), 0
        if there == 0:
            return None
        if there > self.log.n:
            lost = there - self.log.n
            self.t = (self.log.count - self.log.n) % self.log.modulus
        value = self.log.cells[plain_slot(self.log.slot, self.log.n, self.t)]
        self.t = (self.t + 1) % self.log.modulus
        self.gone += lost + 1
        return lost, value

    def state(self):
        return [self.believed(), self.log.count - self.start - self.gone]


def state(log, n):
    return [log.put_count, log.held, [log[k] for k in range(n)]]


def put(log, many):
    """`log += many` as a call."""
    log += many
    return log


class LogTest(RingCase):

    def test_beside_slots_that_are_written_one_by_one(self):
        for scheme, n in LOGS:
            log, plain = Log(scheme, n), PlainLog(scheme, n)
            for many in (0, 1, 1, 2, 0, 3, 5, n, 1, 2 * n + 1, 17):
                log += many
                plain.put(many)
                self.assertEqual(state(log, n), plain.state())

    def test_a_new_log(self):
        log = Log(scheme=log_scheme(N), n=3)
        self.assertEqual(state(log, 3), [0, 0, [0, 0, 0]])
        for number in (log.put_count, log.held, log[0]):
            self.assert_integer(number, 0)

    def test_the_object_stays_the_same(self):
        log = Log(log_scheme(N), 3)
        same = log
        log += 4
        self.assertIs(log, same)
        self.assertEqual(state(same, 3), [4, 3, [4, 2, 3]])

    def test_many_values_at_once(self):
        for n in (7, GREATEST):
            log = Log(log_scheme(DOUBLED, "off"), n)
            for k in range(1, 4):
                log += MOST
                self.assertEqual([log.put_count, log.held], [k * MOST, n])
                last = (k * MOST - 1) % n
                self.assertEqual([log[last], log[(last + 1) % n], log[(last - 1) % n]],
                                 [k * MOST, k * MOST - n + 1, k * MOST - 1])
        log = Log(log_scheme(100, "mask"), 2 ** 90)
        log += 5
        self.assertEqual([log[0], log[4], log[5], log[2 ** 90 - 1], log.held], [1, 5, 0, 0, 5])

    def test_what_is_no_number_of_values(self):
        log = put(Log(log_scheme(N), 3), 4)
        for wrong in NO_LAGS + [MOST + 1]:
            with self.subTest(wrong=wrong):
                self.assert_error(NoLag, put, log, wrong)
                self.assertEqual(state(log, 3), [4, 3, [4, 2, 3]])
        self.assertEqual(put(log, MOST).put_count, MOST + 4)

    def test_slots_that_are_none(self):
        log = put(Log(log_scheme(N), 3), 2)
        for wrong in NO_INTEGERS + [-1, 3, 4, GREATEST, slice(0, 1), Counter(8, 1), Form(0, 1)]:
            with self.subTest(wrong=wrong):
                self.assert_error(Outside, log.__getitem__, wrong)
        with self.assertRaises(TypeError):
            list(log)

    def test_errors_in_their_order(self):
        calls = (Log, lambda scheme, n: belief_of(scheme, n, None), right_lags, place_lags)
        for call in calls:
            for wrong in NO_SIZES:
                with self.subTest(wrong=wrong):
                    self.assert_error(NoSize, call, log_scheme(N), wrong)
                    self.assert_error(NoSize, call, scheme_of(Form(0, 0)), wrong)
            for when in ("refuse", "drop", "over"):
                self.assert_error(NoRing, call, scheme_of(Form(1, -5), when=when), 5)
                self.assert_error(NoRing, call, scheme_of(Form(0, 0), when=when), GREATEST)
            for scheme, n in no_logs():
                self.assert_error(NotDecided, call, scheme, n)

    def test_empty_and_full_are_of_no_account(self):
        for empty in ("same", "count", "note"):
            for full in (("next",), ("note",), ("diff", "=", Form(0, 0)), ("count", ">=", Form(0, -1))):
                log = put(Log(log_scheme(DOUBLED, empty=empty, full=full), 2), 5)
                self.assertEqual([log[0], log[1]], [5, 4])

    def test_the_parts_are_kept(self):
        scheme = log_scheme(DOUBLED, "off")
        log = put(Log(scheme, 3), 4)
        reader = Reader(log, back=4)
        scheme.wrap, scheme.slot, scheme.when = Form(0, 1), "rest", "refuse"
        log += 1
        self.assertEqual(state(log, 3), [5, 3, [4, 5, 3]])
        self.assertEqual([reader.believed, reader()], [5, (2, 3)])


class ReaderTest(RingCase):

    def test_beside_a_plain_reader(self):
        for scheme, n in LOGS:
            modulus = plain_modulus(scheme.wrap, n)
            for ahead in (0, 1, n, modulus, 2 * modulus + 1):
                for back in {0, 1, n, modulus - 1, modulus, ahead}:
                    if back <= ahead:
                        self.assert_alike(scheme, n, ahead, back)

    def assert_alike(self, scheme, n, ahead, back):
        """Reads and puts in turns, in time and late."""
        log, plain = put(Log(scheme, n), ahead), PlainLog(scheme, n)
        plain.put(ahead)
        reader, beside = Reader(log, back=back), PlainReader(plain, back)
        for many in (0, 1, 0, 0, 2, n, 0, 0, plain.modulus - 1, 0, 0, plain.modulus, 0, plain.modulus + 2, 0, 0, 0):
            log += many
            plain.put(many)
            self.assertEqual([reader.believed, reader.lag], beside.state())
            self.assertEqual(reader(), beside.read())
            self.assertEqual([reader.believed, reader.lag], beside.state())
        self.assertEqual(state(log, n), plain.state())

    def test_a_reader_whose_lag_stays_below_the_modulus(self):
        for scheme, n in LOGS:
            modulus = plain_modulus(scheme.wrap, n)
            log = put(Log(scheme, n), 3)
            back = min(3, modulus - 1)
            reader = Reader(log, back=back)
            expected = 3 - back + 1
            for k in range(60):
                many = (7 * k + 3) % modulus
                if reader.lag + many < modulus:
                    log += many
                for _ in range(k % 3):
                    oldest = max(expected, log.put_count - n + 1)
                    wanted = (oldest - expected, oldest) if expected <= log.put_count else None
                    self.assertEqual(reader(), wanted)
                    if wanted is not None:
                        expected = oldest + 1
                    self.assertEqual(reader.lag, log.put_count + 1 - expected)

    def test_starts(self):
        log = put(Log(log_scheme(DOUBLED), 4), 6)
        for back, first in ((0, None), (1, (0, 6)), (4, (0, 3)), (5, (1, 3)), (6, (2, 3))):
            reader = Reader(log, back=back)
            self.assertEqual([reader.believed, reader.lag], [back, back])
            self.assert_integer(reader.believed, back)
            self.assert_integer(reader.lag, back)
            self.assertEqual(reader(), first)
        self.assertEqual(Reader(log=log).lag, 0)
        self.assertIsNone(Reader(log)())
        log += 5
        late = Reader(log, back=11)
        self.assertEqual([late.believed, late.lag, late(), late.believed, late.lag], [3, 11, (0, 9), 2, 10])

    def test_what_is_no_back(self):
        log = put(Log(log_scheme(DOUBLED), 4), 6)
        for wrong in NO_LAGS + [7, MOST]:
            with self.subTest(wrong=wrong):
                with self.assertRaises(NoLag) as caught:
                    Reader(log, back=wrong)
                self.assertIs(type(caught.exception), NoLag)
        self.assert_error(NoLag, Reader, Log(log_scheme(N), 3), back=1)
        self.assertIsNone(Reader(Log(log_scheme(N), 3), back=0)())
        self.assertEqual(state(log, 4), [6, 4, [5, 6, 3, 4]])
        with self.assertRaises(TypeError):
            Reader(log, 3)

    def test_nothing_there(self):
        log = put(Log(log_scheme(DOUBLED), 4), 8)
        for back in (0, 8):
            reader = Reader(log, back=back)
            for _ in range(3):
                self.assertIsNone(reader())
                self.assertEqual([reader.believed, reader.lag], [0, back])

    def test_readers_do_not_affect_one_another_or_the_log(self):
        log = put(Log(log_scheme(DOUBLED), 4), 6)
        one, other = Reader(log, back=4), Reader(log, back=4)
        self.assertEqual([one(), one(), other(), one(), other()], [(0, 3), (0, 4), (0, 3), (0, 5), (0, 4)])
        self.assertEqual([one.lag, other.lag, state(log, 4)], [1, 2, [6, 4, [5, 6, 3, 4]]])

    def test_rest(self):
        log = put(Log(log_scheme(DOUBLED), 4), 7)
        self.assertEqual(list(Reader(log, back=6).rest(10)), [(2, 4), (0, 5), (0, 6), (0, 7)])
        reader = Reader(log, back=3)
        self.assertEqual(list(reader.rest(limit=2)), [(0, 5), (0, 6)])
        self.assertEqual([reader.lag, list(reader.rest(0)), reader.lag], [1, [], 1])
        self.assertEqual(list(reader.rest(MOST)), [(0, 7)])
        self.assertEqual(list(reader.rest(5)), [])
        log += 1
        self.assertEqual([list(reader.rest(1)), list(reader.rest(1))], [[(0, 8)], []])

    def test_each_read_is_made_only_when_its_tuple_is_asked_for(self):
        log = put(Log(log_scheme(DOUBLED), 4), 4)
        reader = Reader(log, back=4)
        tuples = reader.rest(10)
        self.assertEqual(reader.lag, 4)
        self.assertEqual([next(tuples), reader.lag], [(0, 1), 3])
        log += 3
        self.assertEqual([next(tuples), reader.lag], [(2, 4), 3])
        self.assertEqual([reader(), next(tuples), reader.lag], [(0, 5), (0, 6), 1])
        tuples.close()
        self.assertEqual([reader.lag, reader()], [1, (0, 7)])

    def test_a_generator_that_is_left_has_read_no_more_than_it_gave(self):
        log = put(Log(log_scheme(DOUBLED), 8), 8)
        for many in range(9):
            reader = Reader(log, back=8)
            self.assertEqual(len(list(islice(reader.rest(MOST), many))), many)
            self.assertEqual(reader.lag, 8 - many)

    def test_great_numbers(self):
        n = GREATEST
        log = put(Log(log_scheme(DOUBLED), n), MOST)
        reader = Reader(log, back=2 * n - 1)
        self.assertEqual([reader.believed, reader()], [2 * n - 1, (n - 1, MOST - n + 1)])
        self.assertEqual(reader.lag, n - 1)
        late = Reader(log, back=MOST)
        self.assertEqual([late.lag, late.believed], [MOST, MOST % (2 * n)])
        log += MOST
        self.assertEqual([late.lag, late.believed], [2 * MOST, 2 * MOST % (2 * n)])


class BeliefTest(RingCase):

    def state(self, belief):
        return [belief.believed, belief.lost, belief.looks_empty, belief.number_right, belief.place_right, bool(belief)]

    def plain_state(self, scheme, n, lag):
        """What a reader so far behind believes and reads, beside the last values that still stand."""
        log = put(Log(scheme, n), lag)
        plain = PlainLog(scheme, n)
        plain.put(lag)
        reader = Reader(log, back=lag)
        believed, read = reader.believed, reader()
        standing = sorted(cell for cell in plain.cells if cell > 0)
        place = lag == 0 or (read is not None and read[1] == standing[0])
        return [believed, max(believed - n, 0), believed == 0, believed == lag, place, believed == lag and place]

    def test_beside_a_reader(self):
        for scheme, n in LOGS:
            modulus = plain_modulus(scheme.wrap, n)
            for lag in range(4 * modulus + 3):
                belief = belief_of(scheme, n, lag)
                self.assertEqual(self.state(belief), self.plain_state(scheme, n, lag))
                self.assertIs(belief.number_right, lag < modulus)
                self.assertIs(belief.place_right, lag < modulus or lag % modulus >= n)

    def test_the_example(self):
        scheme = Scheme.read("M = 2*N; slot rest; empty same; full next; when over")
        belief = belief_of(scheme=scheme, n=4, lag=13)
        self.assertIs(type(belief), Belief)
        self.assertEqual(self.state(belief), [5, 1, False, False, True, False])
        self.assert_integer(belief.believed, 5)
        self.assert_integer(belief.lost, 1)
        for told in (belief.looks_empty, belief.number_right, belief.place_right):
            self.assertIs(type(told), bool)

    def test_edges(self):
        scheme = log_scheme(DOUBLED)
        for lag, wanted in ((0, [0, 0, True, True, True, True]), (1, [1, 0, False, True, True, True]),
                            (4, [4, 0, False, True, True, True]), (5, [5, 1, False, True, True, True]),
                            (7, [7, 3, False, True, True, True]), (8, [0, 0, True, False, False, False]),
                            (9, [1, 0, False, False, False, False]), (11, [3, 0, False, False, False, False]),
                            (12, [4, 0, False, False, True, False]), (15, [7, 3, False, False, True, False]),
                            (16, [0, 0, True, False, False, False])):
            self.assertEqual(self.state(belief_of(scheme, 4, lag)), wanted)

    def test_great_numbers(self):
        n = GREATEST
        scheme = log_scheme(Form(4, 0))
        self.assertEqual(self.state(belief_of(scheme, n, 4 * n - 1)), [4 * n - 1, 3 * n - 1, False, True, True, True])
        self.assertEqual(self.state(belief_of(scheme, n, 4 * n)), [0, 0, True, False, False, False])
        self.assertEqual(self.state(belief_of(scheme, n, 5 * n)), [n, 0, False, False, True, False])
        self.assertEqual(self.state(belief_of(scheme, n, 5 * n - 1)), [n - 1, 0, False, False, False, False])
        self.assertEqual(self.state(belief_of(scheme, n, MOST)), [0, 0, True, False, False, False])

    def test_what_is_no_lag(self):
        for wrong in NO_LAGS + [MOST + 1]:
            with self.subTest(wrong=wrong):
                self.assert_error(NoLag, belief_of, log_scheme(DOUBLED), 4, wrong)
        belief_of(log_scheme(DOUBLED), 4, MOST)


class LagsTest(RingCase):

    def test_beside_beliefs(self):
        for scheme, n in LOGS:
            rights, places = right_lags(scheme, n), place_lags(scheme, n)
            self.assertEqual([type(rights), type(places)], [SizeSet, SizeSet])
            for lag in range(1, 5 * plain_modulus(scheme.wrap, n) + 4):
                belief = belief_of(scheme, n, lag)
                self.assertIs(lag in rights, bool(belief))
                self.assertIs(lag in places, belief.place_right)
            self.assertIs(0 in places, False)

    def test_shortest_forms(self):
        scheme = log_scheme(DOUBLED)
        self.assertEqual(right_lags(scheme=scheme, n=4), SizeSet([1, 2, 3, 4, 5, 6, 7], 8, 1, []))
        places = place_lags(scheme=scheme, n=4)
        self.assertEqual([places.early, places.start, places.period, places.rests], [[1, 2, 3], 4, 8, [4, 5, 6, 7]])
        self.assertEqual(place_lags(log_scheme(N), 4), SizeSet([1, 2, 3], 4, 1, []))
        self.assertEqual([right_lags(log_scheme(N), 1), place_lags(log_scheme(N), 1)], [SizeSet.none()] * 2)

    def test_moduli_about_the_greatest(self):
        for scheme, n in ((log_scheme(N), 2000), (log_scheme(DOUBLED, "off"), 1000), (log_scheme(Form(4, 0)), 500)):
            modulus = plain_modulus(scheme.wrap, n)
            rights, places = right_lags(scheme, n), place_lags(scheme, n)
            for lag in (1, n - 1, n, 1999, 2000, 2001, 2000 + n - 1, 2000 + n, 3999, 4000, 4001, MOST - 1, MOST):
                belief = belief_of(scheme, n, lag)
                self.assertEqual([lag in rights, lag in places], [bool(belief), belief.place_right])
            self.assertEqual(modulus, 2000)
            self.assert_error(TooLong, right_lags, scheme, n + 1)
            self.assert_error(TooLong, place_lags, scheme, n + 1)
        for call in (right_lags, place_lags):
            self.assert_error(TooLong, call, log_scheme(N), 2001)
            self.assert_error(TooLong, call, log_scheme(11, "mask"), 2)
            self.assert_error(TooLong, call, log_scheme(N), GREATEST)
            self.assert_error(NotDecided, call, log_scheme(11, "mask"), 3)
            self.assert_error(NotDecided, call, Scheme.counted(), 2001)
