"""Texts of schemes: point 9."""

from itertools import product

from ringindexes.counters import Counter
from ringindexes.errors import NoScheme
from ringindexes.forms import Form
from ringindexes.schemes import Scheme, show_scheme
from tests.helpers import RingCase

N = Form(1, 0)
WRAPS = [(N, "N"), (Form(2, 0), "2*N"), (Form(4, 20), "4*N + 20"), (Form(1, -1), "N - 1"), (Form(0, 5), "5"),
         (Form(0, 0), "0"), (Form(0, -20), "-20"), (5, "2**5"), (1, "2**1"), (10, "2**10"), (100, "2**100")]
FULLS = [(("diff", "=", Form(1, -1)), "diff = N - 1"), (("diff", ">=", Form(0, 4)), "diff >= 4"),
         (("count", "=", N), "count = N"), (("count", ">=", N), "count >= N"), (("next",), "next"),
         (("note",), "note"), (("diff", "=", Form(0, -3)), "diff = -3"),
         (("count", ">=", Form(4, 20)), "count >= 4*N + 20")]
TEXT = "M = 2*N; slot off; empty same; full diff = N; when refuse"

ALMOST = [
    "", "M = N", "; ; ; ; ", TEXT + ";", TEXT + "; ", "; " + TEXT, TEXT + " ", " " + TEXT, TEXT * 2,
    TEXT + "; " + TEXT, TEXT.upper(), TEXT.replace("M = ", "m = "), TEXT.replace("M = ", "M="),
    TEXT.replace("M = ", "M =  "), TEXT.replace("M = ", "M  = "), TEXT.replace("M = ", ""), TEXT.replace("M =", "N ="),
    TEXT.replace("M = ", "M >= "), TEXT.replace("; ", ";"), TEXT.replace("; ", ";  "), TEXT.replace("; ", " ; "),
    TEXT.replace("; ", ", "), TEXT.replace("; slot off", ""), TEXT.replace("; empty same", ""),
    TEXT.replace("; full diff = N", ""), TEXT.replace("; when refuse", ""), TEXT.replace("M = 2*N; ", ""),
    "slot off; M = 2*N; empty same; full diff = N; when refuse",
    "M = 2*N; empty same; slot off; full diff = N; when refuse",
    "M = 2*N; slot off; full diff = N; empty same; when refuse",
    "M = 2*N; slot off; empty same; when refuse; full diff = N",
    TEXT.replace("slot", "slots"), TEXT.replace("slot off", "slot  off"), TEXT.replace("slot off", "slotoff"),
    TEXT.replace("slot off", "slot"), TEXT.replace("slot off", "slot "), TEXT.replace("slot off", "off"),
    TEXT.replace("slot off", "slot mod"), TEXT.replace("slot off", "slot mask"), TEXT.replace("slot off", "Slot off"),
    TEXT.replace("empty same", "empty full"), TEXT.replace("empty same", "empty"), TEXT.replace("empty", "emptx"),
    TEXT.replace("empty same", "empty = same"), TEXT.replace("when refuse", "when never"),
    TEXT.replace("when refuse", "when"), TEXT.replace("when refuse", "when  refuse"), TEXT.replace("when", "what"),
    TEXT.replace("when refuse", "when refuse refuse"), TEXT.replace("full", "fuli"),
    TEXT.replace("diff = N", "diff=N"), TEXT.replace("diff = N", "diff =N"), TEXT.replace("diff = N", "diff  = N"),
    TEXT.replace("diff = N", "diff =  N"), TEXT.replace("diff = N", "diff > N"), TEXT.replace("diff = N", "diff == N"),
    TEXT.replace("diff = N", "diff <= N"), TEXT.replace("diff = N", "diff => N"), TEXT.replace("diff = N", "diff N"),
    TEXT.replace("diff = N", "diff"), TEXT.replace("diff = N", "diff ="), TEXT.replace("diff = N", "diff = "),
    TEXT.replace("diff = N", "= N"), TEXT.replace("diff = N", "N = diff"), TEXT.replace("diff = N", "diff = 1*N"),
    TEXT.replace("diff = N", "diff = N + 0"), TEXT.replace("diff = N", "diff = N + 21"),
    TEXT.replace("diff = N", "diff = N + -3"), TEXT.replace("diff = N", "diff = 5*N"),
    TEXT.replace("diff = N", "diff = -N"), TEXT.replace("diff = N", "diff = 04"), TEXT.replace("diff = N", "diff = +4"),
    TEXT.replace("diff = N", "diff = 2**5"), TEXT.replace("diff = N", "next = N"),
    TEXT.replace("diff = N", "note = N"), TEXT.replace("diff = N", "next "), TEXT.replace("diff = N", "same"),
    TEXT.replace("diff = N", "count"), TEXT.replace("diff = N", "next next"), TEXT.replace("diff = N", "Next"),
    TEXT.replace("diff = N", "diff = " + "1" * 41), TEXT.replace("diff = N", "diff = 21"),
    TEXT.replace("2*N", "5*N"), TEXT.replace("2*N", "-N"), TEXT.replace("2*N", "N + 21"), TEXT.replace("2*N", "N - 21"),
    TEXT.replace("2*N", "1*N"), TEXT.replace("2*N", "0*N"), TEXT.replace("2*N", "02*N"), TEXT.replace("2*N", "+2*N"),
    TEXT.replace("2*N", "2 * N"), TEXT.replace("2*N", "2*N + 0"), TEXT.replace("2*N", "2*N + -3"),
    TEXT.replace("2*N", "N + 3 "), TEXT.replace("2*N", "-0"), TEXT.replace("2*N", "-21"), TEXT.replace("2*N", ""),
    TEXT.replace("2*N", "2**0"), TEXT.replace("2*N", "2**101"), TEXT.replace("2*N", "2**05"),
    TEXT.replace("2*N", "2**+5"), TEXT.replace("2*N", "2**-5"), TEXT.replace("2*N", "2** 5"),
    TEXT.replace("2*N", "2 ** 5"), TEXT.replace("2*N", "2**"), TEXT.replace("2*N", "2**N"),
    TEXT.replace("2*N", "2**5 + 1"), TEXT.replace("2*N", "3**5"), TEXT.replace("2*N", "2^5"),
    TEXT.replace("2*N", "2**1000"), TEXT.replace("2*N", "2**1_0"), TEXT.replace("2*N", "2**" + "1" * 41),
    TEXT.replace("2*N", "2**" + "9" * 5000), TEXT.replace("2*N", "1" * 41), TEXT.replace("2*N", "9" * 5000),
]


class SchemeTextTest(RingCase):

    def test_texts_are_written_and_read(self):
        words = product(WRAPS, ("rest", "off"), ("same", "count", "note"), FULLS, ("refuse", "drop", "over"))
        for (wrap, wrap_text), slot, empty, (full, full_text), when in words:
            scheme = Scheme(wrap=wrap, slot=slot, empty=empty, full=full, when=when)
            text = f"M = {wrap_text}; slot {slot}; empty {empty}; full {full_text}; when {when}"
            self.assertEqual(show_scheme(scheme), text)
            read = Scheme.read(text)
            self.assertIs(type(read), Scheme)
            self.assertEqual([read.wrap, read.slot, read.empty, read.full, read.when], [wrap, slot, empty, full, when])
            self.assertEqual(read, scheme)

    def test_masks(self):
        text = "M = 2**7; slot mask; empty same; full diff = N; when refuse"
        self.assertEqual(show_scheme(Scheme.masked(7)), text)
        self.assertEqual(Scheme.read(text), Scheme.masked(7))

    def test_all_small_forms(self):
        for slope, base in product(range(5), range(-20, 21)):
            form = Form(slope, base)
            scheme = Scheme(wrap=form, slot="rest", empty="same", full=("count", ">=", form))
            self.assertEqual(Scheme.read(show_scheme(scheme)), scheme)

    def test_all_widths(self):
        for width in range(1, 101):
            scheme = Scheme.masked(width)
            self.assertEqual(show_scheme(scheme).split("; ")[0], f"M = 2**{width}")
            self.assertEqual(Scheme.read(show_scheme(scheme)).wrap, width)

    def test_known_schemes(self):
        self.assertEqual(show_scheme(Scheme.spare()), "M = N; slot rest; empty same; full next; when refuse")
        self.assertEqual(show_scheme(Scheme.doubled()), TEXT)
        self.assertEqual(show_scheme(Scheme.counted()), "M = N; slot rest; empty count; full count = N; when refuse")
        self.assertEqual(show_scheme(scheme=Scheme.noted()), "M = N; slot rest; empty note; full note; when refuse")
        self.assertEqual(Scheme.read(text=TEXT), Scheme.doubled())

    def test_the_text_is_that_of_the_parts_now(self):
        scheme = Scheme.doubled()
        scheme.when = "drop"
        scheme.wrap = 3
        self.assertEqual(show_scheme(scheme), "M = 2**3; slot off; empty same; full diff = N; when drop")

    def test_texts_that_are_almost_right(self):
        for text in ALMOST:
            with self.subTest(text):
                self.assertNotEqual(text, TEXT)
                self.assertEqual(self.assert_error(NoScheme, Scheme.read, text).part, "text")

    def test_a_mask_beside_a_form(self):
        text = "M = N; slot mask; empty same; full next; when refuse"
        self.assertEqual(self.assert_error(NoScheme, Scheme.read, text).part, "text")

    def test_objects_that_are_no_texts(self):
        for wrong in [True, False, None, 0, 5, TEXT.encode(), [TEXT], (TEXT,), TEXT.split("; "), {}, object(), N,
                      Counter(8, 3), Scheme.doubled()]:
            with self.subTest(wrong=wrong):
                self.assertEqual(self.assert_error(NoScheme, Scheme.read, wrong).part, "text")
