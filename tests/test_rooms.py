"""Rooms: point 21."""

from ringindexes.counters import Counter
from ringindexes.errors import NoRing, NoSize
from ringindexes.forms import Form
from ringindexes.rooms import room_of
from ringindexes.schemes import Scheme
from tests.helpers import NO_SIZES, RingCase
from tests.models import MORE_WRAPS, N, plain_room, scheme_of, schemes_of, sized

GREATEST = 10 ** 30


def room(full, n, wrap=N, **parts):
    return room_of(scheme_of(wrap, full=full, **parts), n)


class RoomTest(RingCase):

    def test_beside_a_step_by_step_count(self):
        for scheme, n in sized(schemes_of(MORE_WRAPS, empties=("same",)), range(1, 9)):
            wanted = plain_room(scheme, n)
            with self.subTest(scheme=scheme, n=n):
                if wanted is None:
                    self.assertIsNone(room_of(scheme, n))
                else:
                    self.assert_integer(room_of(scheme, n), wanted)

    def test_slots_and_empty_are_of_no_account(self):
        for scheme, n in sized(schemes_of((N, 2), fulls=(("next",), ("diff", "=", N), ("note",))), (1, 3, 5)):
            self.assertEqual(room_of(scheme, n), room_of(scheme.remade(slot="rest", empty="same"), n))

    def test_limits_about_the_modulus(self):
        wanted = {-2: None, -1: None, 0: 0, 1: 1, 6: 6, 7: None, 8: None}
        self.assertEqual({k: room(("diff", "=", Form(0, k)), 7) for k in wanted}, wanted)
        wanted = {-2: 0, -1: 0, 0: 0, 1: 1, 6: 6, 7: None, 8: None}
        self.assertEqual({k: room(("diff", ">=", Form(0, k)), 7) for k in wanted}, wanted)
        wanted = {-2: None, -1: None, 0: 0, 1: 1, 6: 6, 7: 7, 8: 8, 20: 20}
        self.assertEqual({k: room(("count", "=", Form(0, k)), 7) for k in wanted}, wanted)
        wanted = {-2: 0, -1: 0, 0: 0, 1: 1, 6: 6, 7: 7, 8: 8, 20: 20}
        self.assertEqual({k: room(("count", ">=", Form(0, k)), 7) for k in wanted}, wanted)
        self.assertEqual([room(("next",), 7), room(("note",), 7)], [6, 7])

    def test_a_modulus_of_one(self):
        one = Form(0, 1)
        self.assertEqual([room(("next",), 5, one), room(("note",), 5, one)], [0, 1])
        self.assertEqual([room(("diff", "=", Form(0, k)), 5, one) for k in (-1, 0, 1)], [None, 0, None])
        self.assertEqual([room(("diff", ">=", Form(0, k)), 5, one) for k in (-1, 0, 1)], [0, 0, None])

    def test_over_never_refuses(self):
        for full in (("diff", "=", N), ("diff", ">=", Form(0, -1)), ("count", "=", Form(0, 0)), ("next",), ("note",)):
            self.assertIsNone(room(full, 3, 4, when="over"))
            self.assertEqual(room(full, 3, 4, when="drop"), room(full, 3, 4))

    def test_great_numbers(self):
        self.assertEqual(room(("next",), GREATEST, 100), 2 ** 100 - 1)
        self.assertEqual(room(("note",), GREATEST, 100), 2 ** 100)
        self.assertEqual(room(("count", "=", Form(4, 20)), GREATEST), 4 * GREATEST + 20)
        self.assertIsNone(room(("diff", "=", Form(4, 20)), GREATEST))
        self.assertEqual(room(("diff", ">=", Form(1, -1)), GREATEST), GREATEST - 1)
        self.assertIsNone(room(("diff", ">=", N), GREATEST))

    def test_wrong_sizes(self):
        for scheme in (scheme_of(N), scheme_of(Form(0, 0)), scheme_of(N, when="over")):
            for wrong in NO_SIZES:
                with self.subTest(wrong=wrong):
                    self.assert_error(NoSize, room_of, scheme, wrong)
        for when in ("refuse", "drop", "over"):
            for n in (1, 3, 5):
                self.assert_error(NoRing, room_of, scheme_of(Form(1, -5), when=when), n)
            self.assert_error(NoRing, room_of, scheme_of(Form(0, 0), when=when), GREATEST)
        self.assertEqual(room_of(scheme=scheme_of(Form(1, -5)), n=6), 0)
        self.assert_error(NoSize, room_of, Scheme.spare(), Counter(8, 3))
