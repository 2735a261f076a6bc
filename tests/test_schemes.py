"""Schemes and the known ones: points 7 and 8."""

from ringindexes.counters import Counter
from ringindexes.errors import NoScheme
from ringindexes.forms import Form
from ringindexes.schemes import Scheme
from tests.helpers import RingCase

NAMES = ("wrap", "slot", "empty", "full", "when")
N = Form(1, 0)

GOOD = {
    "wrap": [Form(0, 0), Form(4, 20), Form(4, -20), Form(0, -20), Form(0, 20), N, 1, 2, 50, 100],
    "slot": ["rest", "off"],
    "empty": ["same", "count", "note"],
    "full": [("diff", "=", N), ("diff", ">=", Form(0, -20)), ("count", "=", Form(4, 20)),
             ("count", ">=", Form(0, 0)), ("next",), ("note",)],
    "when": ["refuse", "drop", "over"],
}

KINDS = [True, False, None, b"", [], {}, (), object(), Counter(8, 3), Scheme.spare()]

BAD = {
    "wrap": KINDS + [Form(5, 0), Form(-1, 0), Form(1, 21), Form(1, -21), Form(5, 21), 0, -1, 101, 10 ** 30,
                     "N", "5", (1,), (N,), [N], (1, 0), "rest", str(N)],
    "slot": KINDS + ["", "mod", "Rest", "rest ", " off", "masks", "MASK", 0, 5, N, ("rest",), ["off"], "same"],
    "empty": KINDS + ["", "Same", "same ", "counts", "notes", "next", "diff", 0, 5, N, ("same",), ["note"]],
    "full": KINDS + ["", "next", "note", ["next"], ["note"], ["diff", "=", N], ("same",), ("diff",), ("count",),
                     ("Next",), ("next", "="), ("next", "=", N), ("note", ">=", N), ("next", None), ("note", N),
                     ("diff", "="), ("diff", "=", N, N), ("diff", N), ("diff", N, "="), ("=", "diff", N),
                     ("diff", ">", N), ("diff", "<", N), ("diff", "<=", N), ("diff", "==", N), ("diff", "= ", N),
                     ("diff", "", N), ("diff", None, N), (None, "=", N), (True, "=", N), (["diff"], "=", N),
                     ("diff", ["="], N), ("diff", "=", [N]), ("diff", "=", (N,)), ("diff", "=", None),
                     ("diff", "=", 5), ("diff", "=", True), ("diff", "=", "N"), ("count", "=", 3),
                     ("diff", "=", Form(5, 0)), ("diff", "=", Form(-1, 0)), ("diff", "=", Form(1, 21)),
                     ("diff", ">=", Form(1, -21)), ("count", "=", Form(5, 0)), ("count", ">=", Form(0, -21)),
                     (("next",),), (("diff", "=", N),), (True,), (None,), (N,), N, 0],
    "when": KINDS + ["", "Refuse", "refuse ", "refuses", "drops", "overs", 0, 5, N, ("refuse",), ["over"]],
}


def parts(scheme):
    return [scheme.wrap, scheme.slot, scheme.empty, scheme.full, scheme.when]


def plain_parts():
    return {"wrap": N, "slot": "rest", "empty": "same", "full": ("next",), "when": "refuse"}


def made(**changed):
    told = plain_parts()
    told.update(changed)
    return Scheme(**told)


def all_good():
    """Schemes with each good value of each part, a mask among them."""
    schemes = [made(**{name: value}) for name in NAMES for value in GOOD[name]]
    return schemes + [made(wrap=width, slot="mask") for width in (1, 2, 100)]


class SchemeTest(RingCase):

    def assert_no_scheme(self, part, call, *args, **told):
        self.assertEqual(self.assert_error(NoScheme, call, *args, **told).part, part)

    def test_parts(self):
        for name in NAMES:
            for value in GOOD[name]:
                with self.subTest(name, value=value):
                    scheme = made(**{name: value})
                    wanted = plain_parts()
                    wanted[name] = value
                    self.assertEqual(parts(scheme), list(wanted.values()))

    def test_a_part_is_of_its_kind(self):
        scheme = made(full=("diff", "=", Form(1, -1)), wrap=7)
        self.assert_integer(scheme.wrap, 7)
        self.assertIs(type(scheme.full), tuple)
        self.assertIs(type(scheme.full[2]), Form)
        self.assertIs(type(made().wrap), Form)

    def test_when_left_out_refuses(self):
        told = plain_parts()
        del told["when"]
        self.assertEqual(Scheme(**told).when, "refuse")

    def test_masks_need_a_width(self):
        for width in (1, 7, 100):
            self.assertEqual(made(wrap=width, slot="mask").slot, "mask")
        for form in (N, Form(0, 5), Form(2, 0)):
            self.assert_no_scheme("slot", made, wrap=form, slot="mask")

    def test_parts_that_are_none(self):
        for name in NAMES:
            for value in BAD[name]:
                with self.subTest(name, value=value):
                    self.assert_no_scheme(name, made, **{name: value})

    def test_the_first_wrong_part_is_named(self):
        for first, name in enumerate(NAMES):
            self.assert_no_scheme(name, made, **{later: None for later in NAMES[first:]})
            for later in NAMES[first + 1:]:
                self.assert_no_scheme(name, made, **{later: None, name: None})
        self.assert_no_scheme("slot", made, slot="mask", when="never")
        self.assert_no_scheme("wrap", made, slot="mask", wrap=Form(5, 0))
        self.assert_no_scheme("wrap", made, slot="mask", wrap=101)

    def test_parts_are_assigned(self):
        for name in NAMES:
            for value in GOOD[name]:
                with self.subTest(name, value=value):
                    wanted = plain_parts()
                    wanted[name] = value
                    scheme = made()
                    setattr(scheme, name, value)
                    self.assertEqual(parts(scheme), list(wanted.values()))
                    changed = made()
                    self.assertIsNone(changed.change(name, value))
                    self.assertEqual(parts(changed), list(wanted.values()))
        scheme = made()
        scheme.change(part="when", value="drop")
        self.assertEqual(scheme.when, "drop")

    def test_one_part_after_the_other(self):
        scheme = made()
        scheme.wrap = 5
        scheme.slot = "mask"
        scheme.wrap = 6
        scheme.slot = "off"
        scheme.wrap = Form(2, 0)
        scheme.empty, scheme.full, scheme.when = "note", ("note",), "over"
        self.assertEqual(parts(scheme), [Form(2, 0), "off", "note", ("note",), "over"])

    def test_wrong_parts_are_not_assigned(self):
        for name in NAMES:
            for value in BAD[name]:
                with self.subTest(name, value=value):
                    scheme = made()
                    self.assert_no_scheme(name, setattr, scheme, name, value)
                    self.assert_no_scheme(name, scheme.change, name, value)
                    self.assertEqual(parts(scheme), list(plain_parts().values()))

    def test_a_new_value_is_checked_beside_the_others(self):
        masked = made(wrap=5, slot="mask")
        self.assert_no_scheme("wrap", setattr, masked, "wrap", N)
        self.assert_no_scheme("wrap", masked.change, "wrap", N)
        self.assertEqual([masked.wrap, masked.slot], [5, "mask"])
        plain = made()
        self.assert_no_scheme("slot", setattr, plain, "slot", "mask")
        self.assert_no_scheme("slot", plain.change, "slot", "mask")
        self.assertEqual([plain.wrap, plain.slot], [N, "rest"])

    def test_change_of_what_is_no_part(self):
        names = ["", "Wrap", "wrap ", "part", "text", "scheme", "remade", "_parts", b"wrap", 0, N, ("wrap",), ["wrap"]]
        for wrong in KINDS + names:
            for value in (N, "rest", None):
                with self.subTest(wrong=wrong, value=value):
                    scheme = made()
                    self.assert_no_scheme("part", scheme.change, wrong, value)
                    self.assertEqual(parts(scheme), list(plain_parts().values()))

    def test_remade(self):
        scheme = made()
        for name in NAMES:
            for value in GOOD[name]:
                with self.subTest(name, value=value):
                    wanted = plain_parts()
                    wanted[name] = value
                    self.assertEqual(parts(scheme.remade(**{name: value})), list(wanted.values()))
                    self.assertEqual(parts(scheme), list(plain_parts().values()))
        self.assertEqual(parts(scheme.remade(wrap=5, slot="mask", when="drop")),
                         [5, "mask", "same", ("next",), "drop"])

    def test_remade_is_a_new_scheme(self):
        scheme = made()
        copy = scheme.remade()
        self.assertIs(type(copy), Scheme)
        self.assertIsNot(copy, scheme)
        self.assertEqual(parts(copy), parts(scheme))
        copy.when = "over"
        scheme.empty = "note"
        self.assertEqual([parts(copy), parts(scheme)], [[N, "rest", "same", ("next",), "over"],
                                                        [N, "rest", "note", ("next",), "refuse"]])

    def test_remade_of_wrong_parts(self):
        for name in NAMES:
            for value in BAD[name]:
                with self.subTest(name, value=value):
                    scheme = made()
                    self.assert_no_scheme(name, scheme.remade, **{name: value})
                    self.assertEqual(parts(scheme), list(plain_parts().values()))

    def test_remade_checks_all_five_as_in_a_new_scheme(self):
        masked = made(wrap=5, slot="mask")
        self.assert_no_scheme("slot", masked.remade, wrap=N)
        self.assert_no_scheme("slot", masked.remade, when=None, wrap=N)
        self.assert_no_scheme("wrap", masked.remade, when=None, wrap=Form(5, 0))
        self.assert_no_scheme("slot", made().remade, slot="mask")
        self.assert_no_scheme("empty", made().remade, when="never", full=None, empty="full")
        self.assertEqual(parts(masked.remade(wrap=N, slot="off")), [N, "off", "same", ("next",), "refuse"])

    def test_remade_of_what_is_no_part(self):
        scheme = made()
        for wrong in ("part", "Wrap", "text", "scheme", "_parts", "size", ""):
            for told in ({wrong: N}, {"wrap": None, wrong: N}, {wrong: None, "wrap": 101}, {"when": "over", wrong: N}):
                with self.subTest(told=told):
                    self.assert_no_scheme("part", lambda: scheme.remade(**told))
        self.assertEqual(parts(scheme), list(plain_parts().values()))

    def test_equality(self):
        schemes = all_good()
        for one in schemes:
            for other in schemes:
                self.assertIs(one == other, parts(one) == parts(other))
                self.assertIs(one != other, parts(one) != parts(other))
            self.assertIs(one == one.remade(), True)
        self.assertIs(made(wrap=5) == made(wrap=Form(0, 5)), False)
        self.assertIs(made(full=("diff", "=", N)) == made(full=("diff", "=", Form(1, 0))), True)

    def test_never_equal_to_other_objects(self):
        for other in [None, True, 0, "", "M = N", [], (), object(), parts(made()), tuple(parts(made())), plain_parts()]:
            self.assertIs(made() == other, False)
            self.assertIs(other == made(), False)
            self.assertIs(made() != other, True)


class KnownSchemesTest(RingCase):

    def test_parts(self):
        limit = Form(1, 0)
        self.assertEqual(parts(Scheme.spare()), [N, "rest", "same", ("next",), "refuse"])
        self.assertEqual(parts(Scheme.doubled()), [Form(2, 0), "off", "same", ("diff", "=", limit), "refuse"])
        self.assertEqual(parts(Scheme.counted()), [N, "rest", "count", ("count", "=", limit), "refuse"])
        self.assertEqual(parts(Scheme.noted()), [N, "rest", "note", ("note",), "refuse"])
        for width in (1, 2, 8, 100):
            self.assertEqual(parts(Scheme.masked(width)), [width, "mask", "same", ("diff", "=", limit), "refuse"])
        self.assertEqual(Scheme.masked(width=3).wrap, 3)

    def test_widths_that_are_none(self):
        for wrong in [True, False, None, "5", [5], (5,), 0, -1, 101, Counter(8, 3), Form(5, 0)]:
            with self.subTest(wrong=wrong):
                self.assertEqual(self.assert_error(NoScheme, Scheme.masked, wrong).part, "wrap")

    def test_each_call_makes_a_new_scheme(self):
        for maker in (Scheme.spare, Scheme.doubled, Scheme.counted, Scheme.noted):
            first = maker()
            first.when = "over"
            self.assertIsNot(maker(), maker())
            self.assertEqual(maker().when, "refuse")
