"""Runs and their texts: points 17 and 18."""

from ringindexes.counters import Counter
from ringindexes.errors import NoRun
from ringindexes.forms import Form
from ringindexes.runs import Run, show_run
from ringindexes.schemes import Scheme
from tests.helpers import NO_INTEGERS, RingCase

MOST = 10 ** 40
ONE, TWO, THREE = (6, "pair"), (3, "put"), (1, "take")
NO_PIECES = [True, False, None, 0, 3, "", "put", "3 put", [], [3, "put"], (), (3,), ("put",), ("put", 3),
             (3, "put", 1), (3, 3), ("3", "put"), (True, "put"), (False, "put"), (None, "put"), (-1, "put"),
             (MOST + 1, "put"), (3, "puts"), (3, "Put"), (3, "put "), (3, ""), (3, None), (3, True), (3, b"put"),
             ([3], "put"), (3, ["put"]), ((3, "put"),), {3: "put"}, object(), Run(), Run(TWO), Form(0, 3),
             (Form(0, 3), "put"), Counter(8, 3), (Counter(8, 3), "take")]
NO_RUNS = NO_INTEGERS + [0, 2, "-", "3 put", TWO, [TWO], (TWO,), Scheme.spare()]


class RunTest(RingCase):

    def assert_no_run(self, at, call, *args, **told):
        found = self.assert_error(NoRun, call, *args, **told).at
        self.assertEqual(found, at)
        self.assertIs(type(found), type(at))

    def test_pieces(self):
        for pieces in ([], [ONE], [ONE, TWO, THREE], [TWO, TWO], [(0, "put"), (MOST, "take"), (MOST, "pair")]):
            run = Run(*pieces)
            self.assertEqual(run.pieces, pieces)
            self.assertIs(type(run.pieces), list)
            self.assert_integer(len(run), len(pieces))
            for k, piece in enumerate(pieces):
                self.assertEqual(run[k], piece)
                self.assertIs(type(run[k]), tuple)

    def test_deeds(self):
        self.assert_integer(Run().all_deeds(), 0)
        self.assert_integer(Run(ONE, TWO, THREE).all_deeds(), 16)
        self.assert_integer(Run((5, "put")).all_deeds(), 5)
        self.assert_integer(Run((5, "take")).all_deeds(), 5)
        self.assert_integer(Run((5, "pair")).all_deeds(), 10)
        self.assert_integer(Run((0, "put"), (0, "pair")).all_deeds(), 0)
        self.assert_integer(Run(*[(MOST, "pair")] * 100).all_deeds(), 200 * MOST)

    def test_no_pieces(self):
        for wrong in NO_PIECES:
            with self.subTest(wrong=wrong):
                self.assert_no_run(0, Run, wrong)
                self.assert_no_run(1, Run, ONE, wrong)
                self.assert_no_run(2, Run, ONE, TWO, wrong, THREE, wrong, None)
                self.assert_no_run(99, Run, *[ONE] * 99, wrong)

    def test_a_hundred_pieces_and_more(self):
        self.assertEqual(len(Run(*[ONE] * 100)), 100)
        self.assert_no_run(None, Run, *[ONE] * 101)
        self.assert_no_run(None, Run, None, *[ONE] * 100)
        self.assert_no_run(None, Run, *[None] * 101)
        self.assert_no_run(0, Run, *[None] * 100)

    def test_returned_lists_are_new(self):
        run = Run(ONE, TWO)
        run.pieces.append(THREE)
        run.pieces.clear()
        self.assertEqual(run.pieces, [ONE, TWO])
        self.assertIsNot(run.pieces, run.pieces)

    def test_passed_lists_have_no_further_effect(self):
        pieces = [ONE, TWO]
        run = Run(*pieces)
        pieces.append(THREE)
        pieces[0] = THREE
        self.assertEqual(run.pieces, [ONE, TWO])

    def test_sums(self):
        one, other = Run(ONE, TWO), Run(THREE)
        for made, pieces in ((one + other, [ONE, TWO, THREE]), (other + one, [THREE, ONE, TWO]),
                             (one + one, [ONE, TWO, ONE, TWO]), (Run() + one, [ONE, TWO]), (one + Run(), [ONE, TWO]),
                             (Run() + Run(), [])):
            self.assertIs(type(made), Run)
            self.assertEqual(made.pieces, pieces)
            self.assertIsNot(made, one)
        self.assertEqual([one.pieces, other.pieces], [[ONE, TWO], [THREE]])

    def test_products(self):
        run = Run(ONE, TWO)
        for k in (0, 1, 2, 3, 49, 50):
            for made in (run * k, k * run):
                self.assertIs(type(made), Run)
                self.assertEqual(made.pieces, [ONE, TWO] * k)
                self.assertIsNot(made, run)
        self.assertEqual(len(Run(ONE) * 100), 100)
        self.assertEqual([len(Run() * 100), len(Run() * 0), len(100 * Run())], [0, 0, 0])
        self.assertEqual(run.pieces, [ONE, TWO])

    def test_sums_in_place_are_seen_by_a_second_name(self):
        run = second_name = Run(ONE)
        other = Run(TWO, THREE)
        run += other
        self.assertIs(run, second_name)
        self.assertEqual(second_name.pieces, [ONE, TWO, THREE])
        run += Run()
        run += run
        self.assertIs(run, second_name)
        self.assertEqual(second_name.pieces, [ONE, TWO, THREE] * 2)
        self.assertEqual(other.pieces, [TWO, THREE])

    def test_a_sum_keeps_nothing_of_its_parts(self):
        one, other = Run(ONE), Run(TWO)
        made = one + other
        one += other
        other += Run(THREE)
        self.assertEqual([made.pieces, one.pieces, other.pieces], [[ONE, TWO], [ONE, TWO], [TWO, THREE]])

    def test_too_many_pieces_together(self):
        half, more = Run(*[ONE] * 50), Run(*[TWO] * 51)
        self.assertEqual(len(half + half), 100)
        self.assert_no_run(None, lambda: half + more)
        self.assert_no_run(None, lambda: more + half)
        self.assert_no_run(None, lambda: half * 3)
        self.assert_no_run(None, lambda: 2 * more)
        self.assert_no_run(None, half.__iadd__, more)
        self.assertEqual([half.pieces, more.pieces], [[ONE] * 50, [TWO] * 51])
        self.assertEqual(len(half * 2), 100)
        half += half
        self.assertEqual(len(half), 100)
        self.assert_no_run(None, half.__iadd__, Run(THREE))
        self.assertEqual(half.pieces, [ONE] * 100)

    def test_other_objects_behind_sums(self):
        run = second_name = Run(ONE, TWO)
        for wrong in NO_RUNS:
            with self.subTest(wrong=wrong):
                self.assert_no_run(None, lambda: run + wrong)
                self.assert_no_run(None, run.__iadd__, wrong)
        with self.assertRaises(NoRun):
            run += [TWO]
        self.assertIs(run, second_name)
        self.assertEqual(second_name.pieces, [ONE, TWO])

    def test_other_objects_beside_products(self):
        run = Run(ONE)
        for wrong in NO_INTEGERS + [-1, 101, MOST, -MOST, Scheme.spare(), Run(ONE)]:
            with self.subTest(wrong=wrong):
                self.assert_no_run(None, lambda: run * wrong)
                self.assert_no_run(None, lambda: wrong * run)
                self.assert_no_run(None, lambda: Run() * wrong)
                self.assert_no_run(None, lambda: wrong * Run())

    def test_indexes_that_are_none(self):
        for run in (Run(), Run(ONE), Run(ONE, TWO, THREE)):
            for wrong in NO_INTEGERS + [-1, -3, len(run), len(run) + 1, MOST, slice(0, 1), Run(), Scheme.spare()]:
                with self.subTest(run=len(run), wrong=wrong):
                    self.assert_no_run(None, lambda: run[wrong])

    def test_equality(self):
        runs = [(), (ONE,), (TWO,), (ONE, TWO), (TWO, ONE), (ONE, ONE), ((6, "put"),), ((5, "pair"),), ((0, "put"),)]
        for one in runs:
            for other in runs:
                self.assertIs(Run(*one) == Run(*other), one == other)
                self.assertIs(Run(*one) != Run(*other), one != other)

    def test_never_equal_to_other_objects(self):
        for other in NO_RUNS + [ONE, [ONE], (ONE,), "6 pair"]:
            self.assertIs(Run(ONE) == other, False)
            self.assertIs(other == Run(ONE), False)
            self.assertIs(Run(ONE) != other, True)
        for other in ([], (), "-", None, 0, False):
            self.assertIs(Run() == other, False)


TEXTS = [
    ((), "-"), ((ONE, TWO, THREE), "6 pair; 3 put; 1 take"), ((TWO,), "3 put"), (((0, "put"),), "0 put"),
    (((10, "take"), (0, "pair")), "10 take; 0 pair"), (((MOST, "pair"),), "1" + "0" * 40 + " pair"),
    (((MOST - 1, "take"), (MOST, "put")), "9" * 40 + " take; 1" + "0" * 40 + " put"), ((TWO, TWO), "3 put; 3 put"),
]

NO_TEXTS = [
    "", " ", "--", "- ", " -", "-;", "-; ", "-; 3 put", "3 put; -", "; ", ";", "; 3 put", "3 put;", "3 put; ",
    "3 put;1 take", "3 put ; 1 take", "3 put;  1 take", "3 put, 1 take", "3 put 1 take", "3 put; ; 1 take", "3put",
    "3  put", " 3 put", "3 put ", "put 3", "put", "3", "3 ", " put", "3 puts", "3 pu", "3 Put", "3 PUT", "3 pairs",
    "03 put", "00 put", "-3 put", "-0 put", "+3 put", "3.0 put", "3_0 put", "1e3 put", "0x3 put", "three put",
    "3 put; 03 take", "3 put; x take", "3 put; 1 takes", "3; put", "(3, 'put')", "3 put 3", "3 put put", "3 3 put",
    "1" + "0" * 39 + "1" + " put", "1" + "0" * 41 + " put", "2" + "0" * 40 + " pair",
    "0" * 41 + " put", "9" * 5900 + " put",
]


class RunTextTest(RingCase):

    def test_texts_are_written_and_read(self):
        for pieces, text in TEXTS:
            self.assertEqual(show_run(Run(*pieces)), text)
            run = Run.read(text)
            self.assertIs(type(run), Run)
            self.assertEqual(run.pieces, list(pieces))
        self.assertEqual(show_run(run=Run.read(text="3 put")), "3 put")

    def test_a_hundred_pieces_and_more(self):
        run = Run((7, "put"), (MOST, "pair")) * 50
        self.assertEqual(Run.read(show_run(run)), run)
        self.assertEqual(len(Run.read("; ".join(["0 take"] * 100))), 100)
        self.assertIsNone(self.assert_error(NoRun, Run.read, "; ".join(["0 take"] * 101)).at)

    def test_texts_that_are_almost_right(self):
        for text in NO_TEXTS:
            with self.subTest(text):
                self.assertIsNone(self.assert_error(NoRun, Run.read, text).at)

    def test_objects_that_are_no_texts(self):
        for wrong in [True, False, None, 0, 3, b"3 put", b"-", [], ["3 put"], ("3 put",), TWO, {}, object(), Run(TWO),
                      Form(1, 0), Scheme.spare()]:
            with self.subTest(wrong=wrong):
                self.assertIsNone(self.assert_error(NoRun, Run.read, wrong).at)
