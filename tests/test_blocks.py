"""Blocks: points 40 to 43, and (e) of point 3."""

from itertools import product

from ringindexes.blocks import BlockRing, block_break, block_parts, block_sizes, blocks_right
from ringindexes.counters import Counter
from ringindexes.errors import NoRing, NoSize, NotDecided, NotRight, Outside, TooLong
from ringindexes.forms import Form
from ringindexes.schemes import Scheme
from ringindexes.sizesets import SizeSet
from ringindexes.slots import modulus_of
from ringindexes.verdicts import verdict_of
from tests.helpers import NO_INTEGERS, NO_SIZES, RingCase
from tests.models import FULLS, MORE_WRAPS, N, plain_modulus, plain_slot, scheme_of, schemes_of, sized

GREATEST = 10 ** 30
MOST = 10 ** 40
DEEDS = (("put", 2), ("take", 1), ("take", 1))
UNEVEN = scheme_of(Form(1, 3), "rest", "same", ("diff", "=", Form(0, 2)))


def right_schemes(sizes, wraps=MORE_WRAPS, fulls=FULLS):
    """Schemes that are right and refuse, each with sizes at which it is right."""
    for scheme, n in sized(schemes_of(wraps, fulls, whens=("refuse",)), sizes):
        if verdict_of(scheme, n):
            yield scheme, n


class PlainBlocks:
    """A block ring as point 41 tells it, copied value by value, with the values that were put beside it."""

    def __init__(self, scheme, n, at=0):
        self.modulus = plain_modulus(scheme.wrap, n)
        self.slot, self.room = scheme.slot, verdict_of(scheme, n).room
        self.cells = [None] * n
        self.put_at = self.take_at = at % self.modulus
        self.queue = []

    def places(self, at, many):
        """One slot behind the other from the slot of a counter on, and from the first one behind the last."""
        place = plain_slot(self.slot, len(self.cells), at)
        for _ in range(many):
            yield place
            place = 0 if place == len(self.cells) - 1 else place + 1

    def put_block(self, *values):
        if len(self.queue) + len(values) > self.room:
            return False
        for place, value in zip(self.places(self.put_at, len(values)), values):
            self.cells[place] = value
        self.put_at = (self.put_at + len(values)) % self.modulus
        self.queue.extend(values)
        return True

    def take_block(self, many):
        if many > len(self.queue):
            return None
        taken = tuple(self.cells[place] for place in self.places(self.take_at, many))
        self.take_at = (self.take_at + many) % self.modulus
        self.due, self.queue = tuple(self.queue[:many]), self.queue[many:]
        return taken

    def state(self):
        return [len(self.queue), (self.put_at, self.take_at), len(self.queue) > 0, self.cells]


def state(ring, n):
    return [ring.held, ring.both_at, bool(ring), [ring[k] for k in range(n)]]


def is_broken_by_blocks(scheme, n):
    """Whether some puts and takes of blocks take a wrong value, by a search of all of them."""
    new, met = [(0, 0, (None,) * n, 0)], set()
    while new:
        put_at, take_at, cells, held = new.pop()
        following = []
        for many in range(1, verdict_of(scheme, n).room - held + 1):
            ring = plain_at(scheme, n, put_at, take_at, cells, held)
            ring.put_block(*range(1, many + 1))
            following.append(ring)
        for many in range(1, held + 1):
            ring = plain_at(scheme, n, put_at, take_at, cells, held)
            if ring.take_block(many) != ring.due:
                return True
            following.append(ring)
        for ring in following:
            # Each value is told by how many are held behind it; what is not held any more is 1.
            ages = {value: k - len(ring.queue) for k, value in enumerate(ring.queue)}
            told = tuple(None if cell is None else ages.get(cell, 1) for cell in ring.cells)
            key = (ring.put_at, ring.take_at, told, len(ring.queue))
            if key not in met:
                met.add(key)
                new.append(key)
    return False


def plain_at(scheme, n, put_at, take_at, cells, held):
    ring = PlainBlocks(scheme, n)
    ring.put_at, ring.take_at = put_at, take_at
    # Old values become -100, so that none of them is a value that is put now.
    ring.cells = [-100 if cell == 1 else cell for cell in cells]
    ring.queue = list(range(-held, 0))
    return ring


class PartsTest(RingCase):

    def test_beside_a_copy_value_by_value(self):
        for scheme, n in sized(schemes_of(MORE_WRAPS, (("next",),), ("same",)), range(1, 8)):
            modulus = plain_modulus(scheme.wrap, n)
            for at, many in product(range(2 * modulus + 1), range(n + 1)):
                first = plain_slot(scheme.slot, n, at % modulus)
                if first is None:
                    self.assert_error(Outside, block_parts, scheme, n, at, many)
                    continue
                parts = block_parts(scheme, n, at, many)
                self.assertLessEqual(len(parts), 2)
                self.assertEqual([type(part) for part in parts], [tuple] * len(parts))
                self.assertNotIn(0, [length for _, length in parts])
                self.assertEqual([slot + k for slot, length in parts for k in range(length)],
                                 [(first + k) % n for k in range(many)])

    def test_kinds_and_edges(self):
        parts = block_parts(scheme=Scheme.doubled(), n=5, at=8, many=4)
        self.assertIs(type(parts), list)
        self.assertEqual(parts, [(3, 2), (0, 2)])
        for many, wanted in ((0, []), (1, [(3, 1)]), (2, [(3, 2)]), (3, [(3, 2), (0, 1)]), (5, [(3, 2), (0, 3)])):
            self.assertEqual(block_parts(Scheme.doubled(), 5, 8, many), wanted)
        self.assertEqual(block_parts(Scheme.doubled(), 5, 5, 5), [(0, 5)])
        self.assertEqual(block_parts(Scheme.spare(), 1, MOST, 1), [(0, 1)])
        self.assert_error(TooLong, block_parts, Scheme.doubled(), 5, 8, 6)
        self.assert_error(TooLong, block_parts, Scheme.doubled(), 5, 0, MOST)

    def test_returned_lists_are_new(self):
        block_parts(Scheme.doubled(), 5, 8, 4).append((1, 1))
        self.assertEqual(block_parts(Scheme.doubled(), 5, 8, 4), [(3, 2), (0, 2)])

    def test_great_numbers(self):
        n = GREATEST
        self.assertEqual(block_parts(Scheme.doubled(), n, MOST, n), [(0, n)])
        self.assertEqual(block_parts(Scheme.doubled(), n, 2 * n - 3, n), [(n - 3, 3), (0, n - 3)])
        self.assertEqual(block_parts(scheme_of(Form(1, 1)), n, MOST, 7), [(MOST % (n + 1) % n, 7)])
        self.assertEqual(block_parts(scheme_of(100, "mask"), 2 ** 90, MOST, 1), [(MOST % 2 ** 90, 1)])

    def test_a_scheme_that_is_not_right_has_parts(self):
        for when in ("refuse", "drop", "over"):
            self.assertEqual(block_parts(scheme_of(3, "rest", when=when), 3, 7, 3), [(1, 2), (0, 1)])

    def test_errors_in_their_order(self):
        outside = scheme_of(Form(3, 0), "off")
        for wrong in NO_SIZES:
            with self.subTest(wrong=wrong):
                self.assert_error(NoSize, block_parts, outside, wrong, 8, 9)
                self.assert_error(NoSize, block_parts, scheme_of(Form(0, 0)), wrong, 8, 9)
        self.assert_error(NoRing, block_parts, scheme_of(Form(1, -5), "off"), 5, 8, 9)
        self.assert_error(Outside, block_parts, outside, 3, 8, 9)
        self.assert_error(Outside, block_parts, outside, 3, 6, 0)
        self.assert_error(Outside, block_parts, outside, 3, 9 + 6, 1)
        self.assert_error(TooLong, block_parts, outside, 3, 9 + 5, 4)
        self.assertEqual(block_parts(outside, 3, 9 + 5, 3), [(2, 1), (0, 2)])


class BlockRingTest(RingCase):

    def assert_alike(self, scheme, n, at, blocks):
        """A block ring does what a plain one does; a number below 0 is a take."""
        ring, plain = BlockRing.started(scheme, n, at), PlainBlocks(scheme, n, at)
        value = 0
        for many in blocks:
            if many < 0:
                self.assertEqual(ring.take_block(-many), plain.take_block(-many))
            else:
                values = range(value + 1, value + many + 1)
                value += many
                answer = ring.put_block(*values)
                self.assertIs(answer, plain.put_block(*values))
            self.assertEqual(state(ring, n), plain.state())

    def test_beside_a_plain_ring(self):
        runs = ((1, 2, -1, 3, -2, -3, 4, 1, -4, 5, -5, -1), (2, -1, -1, 2, -2, 3, -1, 1, -2, -1, 6, 7, -6, -7),
                (8, 7, 6, 5, 4, 3, 2, 1, -8, -5, -4, -3, -2, -1, -1, 1, -1, 2, -2))
        for scheme, n in right_schemes((1, 2, 3, 4, 6, 8)):
            for at, blocks in zip((0, 1, 3, n, 2 * n + 1, 9), runs * 2):
                self.assert_alike(scheme, n, at, blocks)

    def test_where_blocks_are_right_it_is_a_queue(self):
        for scheme, n in right_schemes((1, 2, 3, 5, 8)):
            if not blocks_right(scheme, n):
                continue
            room = verdict_of(scheme, n).room
            ring, queue = BlockRing(scheme, n), []
            for k in range(60):
                values = [100 * k + j for j in range((5 * k + 3) % (room + 2))]
                self.assertIs(ring.put_block(*values), len(queue) + len(values) <= room)
                if len(queue) + len(values) <= room:
                    queue += values
                many = 7 * k % (room + 2)
                if many > len(queue):
                    self.assertIsNone(ring.take_block(many))
                else:
                    self.assertEqual(ring.take_block(many), tuple(queue[:many]))
                    queue = queue[many:]
                self.assertEqual(ring.held, len(queue))

    def test_a_new_ring(self):
        for ring in (BlockRing(scheme=Scheme.doubled(), n=3), BlockRing.started(scheme=Scheme.doubled(), n=3, at=0)):
            self.assertIs(type(ring), BlockRing)
            self.assertEqual(state(ring, 3), [0, (0, 0), False, [None] * 3])
            self.assert_integer(ring.held, 0)
            self.assertIs(type(ring.both_at), tuple)

    def test_the_example(self):
        ring = BlockRing.started(Scheme.doubled(), 4, 7)
        self.assertEqual([ring.put_block(1, 2, 3), ring.take_block(2), ring.held, ring.both_at,
                          ring.put_block(4, 5, 6, 7)], [True, (1, 2), 1, (2, 1), False])
        self.assertEqual([ring[k] for k in range(4)], [2, 3, None, 1])

    def test_blocks_of_no_values(self):
        ring = BlockRing.started(Scheme.doubled(), 4, 7)
        for _ in range(2):
            self.assertIs(ring.put_block(), True)
            self.assertEqual(ring.take_block(0), ())
            self.assertEqual(state(ring, 4), [0, (7, 7), False, [None] * 4])
        ring.put_block(1, 2, 3, 4)
        self.assertIs(ring.put_block(), True)
        self.assertEqual(ring.take_block(many=0), ())
        self.assertEqual(state(ring, 4), [4, (3, 7), True, [2, 3, 4, 1]])

    def test_as_many_as_the_room_and_one_more(self):
        for scheme, room in ((Scheme.doubled(), 4), (Scheme.spare(), 3), (Scheme.counted(), 4), (Scheme.masked(3), 4)):
            for at in range(9):
                ring = BlockRing.started(scheme, 4, at)
                before = state(ring, 4)
                self.assertIs(ring.put_block(*range(room + 1)), False)
                self.assertEqual(state(ring, 4), before)
                self.assertIs(ring.put_block(*range(room)), True)
                full = state(ring, 4)
                self.assertIs(ring.put_block(9), False)
                self.assertIsNone(ring.take_block(room + 1))
                self.assertEqual(state(ring, 4), full)
                self.assertEqual(ring.take_block(room), tuple(range(room)))
                self.assertIsNone(ring.take_block(1))
                self.assertEqual([ring.held, bool(ring)], [0, False])

    def test_slots_keep_what_they_hold(self):
        ring = BlockRing(Scheme.doubled(), 3)
        ring.put_block(7, 8, 9)
        ring.take_block(3)
        self.assertEqual([ring[k] for k in range(3)], [7, 8, 9])
        ring.put_block(10)
        self.assertEqual([ring[k] for k in range(3)], [10, 8, 9])

    def test_slots_that_are_none(self):
        ring = BlockRing(Scheme.doubled(), 3)
        for wrong in NO_INTEGERS + [-1, 3, 4, GREATEST, slice(0, 1), Counter(8, 1), Form(0, 1)]:
            with self.subTest(wrong=wrong):
                self.assert_error(Outside, ring.__getitem__, wrong)

    def test_slots_are_not_iterated_over(self):
        with self.assertRaises(TypeError):
            list(BlockRing(Scheme.doubled(), 3))

    def test_great_sizes(self):
        n = GREATEST
        ring = BlockRing.started(Scheme.doubled(), n, MOST - 2)
        self.assertEqual(ring.both_at, (2 * n - 2, 2 * n - 2))
        self.assertIs(ring.put_block(1, 2, 3, 4), True)
        self.assertEqual([ring[n - 2], ring[n - 1], ring[0], ring[1], ring[2], ring[n // 2]], [1, 2, 3, 4, None, None])
        self.assertEqual([ring.take_block(3), ring.held, ring.both_at], [(1, 2, 3), 1, (2, 1)])
        self.assert_error(Outside, ring.__getitem__, n)
        ring = BlockRing.started(Scheme.masked(100), 2 ** 99, MOST)
        self.assertEqual(ring.both_at, (MOST % 2 ** 100,) * 2)
        self.assertEqual([ring.put_block(5), ring.take_block(1), ring.take_block(MOST)], [True, (5,), None])
        self.assertEqual(BlockRing(Scheme.noted(), n).both_at, (0, 0))

    def test_errors_in_their_order(self):
        for make in (BlockRing, lambda scheme, n: BlockRing.started(scheme, n, 1)):
            for wrong in NO_SIZES:
                with self.subTest(wrong=wrong):
                    self.assert_error(NoSize, make, Scheme.spare(), wrong)
                    self.assert_error(NoSize, make, scheme_of(Form(0, 0), when="over"), wrong)
            for when in ("drop", "over"):
                self.assert_error(NotDecided, make, scheme_of(Form(0, 0), when=when), 3)
                self.assert_error(NotDecided, make, Scheme.counted().remade(when=when), 3)
            for why, scheme in not_right_schemes():
                self.assertEqual(self.assert_error(NotRight, make, scheme, 3).why, why)

    def test_the_parts_are_kept(self):
        scheme = Scheme.doubled()
        ring, same = BlockRing.started(scheme, 3, 5), BlockRing.started(Scheme.doubled(), 3, 5)
        scheme.wrap, scheme.slot, scheme.full, scheme.when = N, "rest", ("next",), "over"
        for told in (ring, same):
            self.assertEqual([told.put_block(1, 2, 3), told.put_block(4), told.take_block(3), told.both_at],
                             [True, False, (1, 2, 3), (2, 2)])


def not_right_schemes():
    """A scheme for each cause at size 3."""
    yield "nothing", scheme_of(Form(1, -3))
    yield "shut", scheme_of(N, full=("count", ">=", Form(0, -1)))
    yield "outside", scheme_of(Form(3, 0), "off")
    yield "empty", scheme_of(N, full=("note",))
    yield "slot", scheme_of(3, full=("diff", "=", N))


class BlocksRightTest(RingCase):

    def test_beside_a_search_of_all_blocks(self):
        both = {}
        for scheme, n in right_schemes((1, 2, 3, 4, 5), MORE_WRAPS[:14]):
            right = blocks_right(scheme, n)
            both[right] = True
            self.assertIs(right, not is_broken_by_blocks(scheme, n))
        self.assertEqual(set(both), {True, False})

    def test_breaks_beside_a_ring_that_starts_there(self):
        slots = {}
        for scheme, n in right_schemes(range(1, 9), MORE_WRAPS + (5, 6)):
            found = block_break(scheme, n)
            self.assertIs(found is None, blocks_right(scheme, n))
            if found is not None:
                slots[scheme.slot] = True
                self.assert_breaks(scheme, n, found)
        self.assertEqual(set(slots), {"rest", "off", "mask"})

    def assert_breaks(self, scheme, n, found):
        """The last deed takes a wrong value, and none before."""
        self.assertIs(type(found), tuple)
        at, deeds = found
        self.assertEqual(deeds, DEEDS)
        self.assertTrue(0 <= at < modulus_of(scheme, n))
        ring = BlockRing.started(scheme, n, at)
        self.assertIs(ring.put_block(1, 2), True)
        self.assertEqual(ring.take_block(1), (1,))
        self.assertNotEqual(ring.take_block(1), (2,))

    def test_where_it_breaks(self):
        self.assertEqual(block_break(scheme=UNEVEN, n=5), (7, DEEDS))
        mask = scheme_of(4, "mask", "count", ("count", "=", Form(0, 2)))
        for n, at in ((6, 1), (12, 3), (20, 3), (32, 15), (48, 15)):
            self.assertEqual(block_break(mask, n), (at, DEEDS))
        self.assertEqual([block_break(mask, n) for n in (2, 4, 8, 16)], [None] * 4)
        self.assertEqual(block_break(scheme_of(3, "rest", "count", ("count", "=", Form(0, 2))), 9), (7, DEEDS))
        self.assertEqual(block_break(scheme_of(Form(1, 3), "off", "same", ("diff", "=", Form(0, 2))), 5), (7, DEEDS))

    def test_known_schemes(self):
        for n in (1, 2, 3, 5, 8, 100, GREATEST):
            for scheme in (Scheme.doubled(), Scheme.counted(), Scheme.noted()):
                self.assertIs(blocks_right(scheme, n), True)
                self.assertIsNone(block_break(scheme, n))
        self.assertIs(blocks_right(Scheme.spare(), 1), False)
        self.assertIs(blocks_right(Scheme.spare(), 2), True)

    def test_room_for_one(self):
        one = scheme_of(Form(1, 3), "rest", "same", ("diff", "=", Form(0, 1)))
        for n in (5, 7, GREATEST):
            self.assertIs(blocks_right(one, n), True)
            self.assertIsNone(block_break(one, n))
            self.assertIs(blocks_right(UNEVEN, n), False)

    def test_great_sizes(self):
        n = GREATEST
        self.assertEqual(block_break(UNEVEN, n), (n + 2, DEEDS))
        self.assert_breaks(UNEVEN, n, block_break(UNEVEN, n))
        mask = scheme_of(100, "mask", "count", ("count", "=", Form(0, 2)))
        self.assertEqual(block_break(mask, n), (2 ** 30 - 1, DEEDS))
        self.assert_breaks(mask, n, block_break(mask, n))
        self.assertIsNone(block_break(mask, 2 ** 99))
        small = scheme_of(20, "mask", "count", ("count", "=", Form(0, 2)))
        self.assertEqual(block_break(small, n), (2 ** 20 - 1, DEEDS))
        self.assert_breaks(small, n, block_break(small, n))

    def test_errors_in_their_order(self):
        for call in (blocks_right, block_break):
            for wrong in NO_SIZES:
                with self.subTest(wrong=wrong):
                    self.assert_error(NoSize, call, Scheme.spare(), wrong)
                    self.assert_error(NoSize, call, scheme_of(Form(0, 0), when="over"), wrong)
            for when in ("drop", "over"):
                self.assert_error(NotDecided, call, scheme_of(Form(0, 0), when=when), 3)
                self.assert_error(NotDecided, call, Scheme.counted().remade(when=when), 3)
        for why, scheme in not_right_schemes():
            self.assertIs(blocks_right(scheme=scheme, n=3), False)
            self.assertEqual(self.assert_error(NotRight, block_break, scheme, 3).why, why)


class BlockSizesTest(RingCase):

    def test_beside_blocks_right(self):
        limits = (Form(0, 1), Form(0, 2), N, Form(1, -1), Form(1, 20))
        fulls = (("next",), ("note",)) + tuple((kind, "=", limit) for kind in ("diff", "count") for limit in limits)
        wraps = tuple(Form(slope, base) for slope in range(4) for base in (-20, -2, 0, 1, 12, 20)) + (1, 2, 4)
        for scheme in schemes_of(wraps, fulls, whens=("refuse",)):
            sizes = block_sizes(scheme)
            for n in [*range(1, 100), 997, 2 ** 64, GREATEST - 1, GREATEST]:
                if (n in sizes) is not blocks_right(scheme, n):
                    self.fail(f"{scheme.wrap, scheme.slot, scheme.empty, scheme.full} at {n}")

    def test_great_widths(self):
        for limit in (1, 2, 8):
            scheme = scheme_of(10, "mask", "count", ("count", "=", Form(0, limit)))
            sizes = block_sizes(scheme)
            for n in [*range(1, 2300), 2 ** 99, GREATEST]:
                self.assertIs(n in sizes, blocks_right(scheme, n))
        self.assertEqual([sizes.early, sizes.start, sizes.rests], [[8, 16, 32, 64, 128, 256, 512, 1024], 1025, []])

    def test_known_schemes(self):
        sizes = block_sizes(scheme=Scheme.doubled())
        self.assertIs(type(sizes), SizeSet)
        self.assertEqual(sizes, SizeSet.full_set())
        self.assertEqual(block_sizes(Scheme.spare()), SizeSet([], 2, 1, [0]))
        self.assertEqual(block_sizes(Scheme.masked(4)), SizeSet([1, 2, 4, 8], 9, 1, []))
        # 3 divides N + 3 at the sizes 1 and 3 alone, and at 1 there is no room for two.
        self.assertEqual(block_sizes(UNEVEN), SizeSet([3], 4, 1, []))

    def test_errors_in_their_order(self):
        for when in ("drop", "over"):
            self.assert_error(NotDecided, block_sizes, scheme_of(N, when=when))
            self.assert_error(NotDecided, block_sizes, scheme_of(11, when=when))
        for width in (11, 100):
            for slot in ("rest", "off", "mask"):
                self.assert_error(TooLong, block_sizes, scheme_of(width, slot))
        self.assertEqual(block_sizes(scheme_of(Form(0, 0))), SizeSet.none())
