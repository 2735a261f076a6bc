"""Papers and their checker: points 57 to 59, and (i) of point 3."""

from itertools import product

from ringindexes.bench import Bench
from ringindexes.checker import check_paper
from ringindexes.counters import Counter
from ringindexes.errors import NoSize
from ringindexes.forms import Form
from ringindexes.handcheck import hands_verdict
from ringindexes.hands import Hands
from ringindexes.papers import hands_paper, paper_of
from ringindexes.runs import Run, show_run
from ringindexes.schemes import Scheme, show_scheme
from ringindexes.slots import modulus_of
from ringindexes.verdicts import verdict_of
from tests.helpers import NO_SIZES, RingCase
from tests.models import FULLS, MORE_WRAPS, N, PlainWatch, plain_modulus, plain_played, scheme_of, schemes_of
from tests.step_models import (SWITCHES, WAY_FULLS, PlainBench, plain_way, right_schemes, switches_told)

GREATEST = 10 ** 30
MOST = 10 ** 40
SIZES = (1, 2, 3, 4, 6, GREATEST - 1, GREATEST)
RIGHT = ("first", "first", "each", "one")
DOUBLED = show_scheme(Scheme.doubled())
# Objects of all kinds, to stand for papers and for parts of papers.
OBJECTS = [None, True, False, 0, 1, -1, 2, 3, 5, GREATEST, GREATEST + 1, MOST, "", "-", "right", "1 put", "nothing", b"right",
           (), [], {}, [1], (1,), {1: 2}, set(), object(), int, len, range(3), Form(1, 0), Counter(8, 3), Scheme.doubled(),
           Run((1, "put")), Hands(Scheme.doubled()), RIGHT, list(RIGHT), ((1, "p"),), [(1, "p")], DOUBLED, 1.5]


def plain_divided(scheme, n):
    """The two numbers of papers on what is right, by plain counting."""
    if scheme.slot == "mask":
        first = 1
        while n % (2 * first) == 0:
            first *= 2
        return first, n // first
    return modulus_of(scheme, n) // n, modulus_of(scheme, n) % n


def plain_breaking_deed(scheme, n, text):
    """The deed at which a ring with a queue, which does the deeds of a run one by one, breaks, or None."""
    if plain_modulus(scheme.wrap, n) < 1:
        return None
    broken = plain_played(PlainWatch(scheme, n), Run.read(text).pieces)
    return None if broken is None else broken[1]


def plain_hands_broken(scheme, n, switches, start, pieces):
    """Whether a bench that does the steps one by one is broken by the last one, and not before."""
    if not verdict_of(scheme, n):
        return False
    bench = PlainBench(scheme, n, **switches_told(switches), at=start)
    broken = bench.play(*pieces)
    return broken is not None and broken[0] == sum(times for times, _ in pieces)


def changed(paper, at, value):
    return paper[:at] + (value,) + paper[at + 1:]


class PaperCase(RingCase):

    def assert_checked(self, paper, wanted):
        told = check_paper(paper)
        if told is not wanted:
            self.fail(f"{paper} is told as {told}")


class PapersTest(PaperCase):

    def test_papers_on_schemes_part_by_part(self):
        heads = {}
        for scheme, n in product(schemes_of(MORE_WRAPS, FULLS), SIZES):
            paper, verdict, text = paper_of(scheme, n), verdict_of(scheme, n), show_scheme(scheme)
            heads[paper[0]] = True
            self.assertIs(type(paper), tuple)
            if verdict.cause == "nothing":
                self.assertEqual(paper, ("nothing", text, n))
            elif verdict:
                self.assertEqual(paper, ("right", text, n, *plain_divided(scheme, n)))
            else:
                self.assertEqual(paper, ("broken", text, n, show_run(verdict.run), verdict.run.all_deeds()))
            self.assert_checked(paper, True)
        self.assertEqual(set(heads), {"nothing", "right", "broken"})

    def test_papers_on_hands_part_by_part(self):
        heads = {}
        for scheme in schemes_of(MORE_WRAPS[:12], WAY_FULLS, whens=("refuse",)):
            if plain_way(scheme) is None:
                continue
            for n, values in product((1, 2, 3, 5, GREATEST), SWITCHES):
                hands = Hands(scheme, **switches_told(values))
                paper, verdict, text = hands_paper(hands, n), hands_verdict(hands, n), show_scheme(scheme)
                heads[paper[0]] = True
                if verdict.cause == "scheme":
                    self.assertEqual(paper, paper_of(scheme, n))
                elif verdict:
                    self.assertEqual(paper, ("hands right", text, n, values, *plain_divided(scheme, n)))
                else:
                    self.assertEqual(paper, ("hands broken", text, n, values, verdict.start, verdict.run))
                self.assert_checked(paper, True)
        self.assertEqual(set(heads), {"nothing", "right", "broken", "hands right", "hands broken"} - {"right"})

    def test_some_papers(self):
        self.assertEqual(paper_of(scheme=Scheme.masked(5), n=24),
                         ("broken", "M = 2**5; slot mask; empty same; full diff = N; when refuse", 24, "9 put; 1 take", 10))
        self.assertEqual(paper_of(Scheme.masked(5), 16)[3:], (16, 1))
        self.assertEqual(paper_of(scheme_of(5, "mask", "count", ("count", "=", Form(0, 4))), 24)[3:], (8, 3))
        self.assertEqual(paper_of(scheme_of(Form(3, 5), "rest", "count", ("count", "=", Form(0, 2))), 9)[3:], (3, 5))
        self.assertEqual(paper_of(scheme_of(Form(1, -9)), 9), ("nothing", show_scheme(scheme_of(Form(1, -9))), 9))
        self.assertEqual(hands_paper(hands=Hands(Scheme.spare(), reading="last"), n=GREATEST),
                         ("hands right", show_scheme(Scheme.spare()), GREATEST, ("first", "last", "each", "one"), 1, 0))
        self.assertEqual(hands_paper(Hands(Scheme.spare()), 1), ("broken", show_scheme(Scheme.spare()), 1, "1 put", 1))

    def test_kinds_of_values(self):
        for paper in (paper_of(Scheme.doubled(), 3), paper_of(Scheme.spare(), 1),
                      hands_paper(Hands(Scheme.doubled()), 3), hands_paper(Hands(Scheme.doubled(), writing="last"), 3)):
            self.assertEqual([type(paper[0]), type(paper[1]), type(paper[2])], [str, str, int])
        self.assertEqual(list(map(type, paper[3:])), [tuple, int, tuple])

    def test_wrong_sizes(self):
        for wrong in NO_SIZES:
            with self.subTest(wrong=wrong):
                for scheme in (Scheme.doubled(), scheme_of(Form(0, 0))):
                    self.assert_error(NoSize, paper_of, scheme, wrong)
                    self.assert_error(NoSize, hands_paper, Hands(scheme), wrong)


class CheckerTest(PaperCase):

    def test_objects_that_are_no_papers(self):
        for thing in OBJECTS:
            self.assert_checked(thing, False)
            for head in ("nothing", "right", "broken", "hands right", "hands broken", "hands", "", None, 1):
                self.assert_checked((head, thing), False)
                self.assert_checked((thing, DOUBLED, 3), False)
                self.assert_checked((head, DOUBLED, 3, thing, thing), False)

    def papers(self):
        """One paper that holds of each form."""
        return (paper_of(scheme_of(Form(1, -3)), 3), paper_of(Scheme.doubled(), 3),
                paper_of(scheme_of(Form(3, 0), "off"), 3), paper_of(scheme_of(3, full=("diff", "=", N)), 3),
                hands_paper(Hands(Scheme.doubled()), 3), hands_paper(Hands(Scheme.counted(), telling="two"), 3),
                hands_paper(Hands(Scheme.doubled(), reading="last"), GREATEST))

    def test_parts_of_other_kinds(self):
        for paper in self.papers():
            self.assert_checked(paper, True)
            for at, thing in product(range(len(paper)), OBJECTS):
                same = type(thing) is type(paper[at]) and thing == paper[at]
                if type(thing) is int and type(paper[at]) is int and not same and at in (2, 4):
                    # Another size, or another start, may do as well; both are tried by themselves.
                    continue
                self.assert_checked(changed(paper, at, thing), same)
            for more in (None, 1, "", ()):
                self.assert_checked(paper + (more,), False)
            for fewer in range(len(paper)):
                self.assert_checked(paper[:fewer], False)
            self.assert_checked(list(paper), False)
            self.assert_checked((paper,), False)

    def test_true_and_false_are_no_numbers(self):
        for paper in (paper_of(Scheme.noted(), 3), paper_of(Scheme.spare(), 1), paper_of(Scheme.counted(), 1),
                      hands_paper(Hands(Scheme.noted()), 1), hands_paper(Hands(Scheme.doubled(), writing="last"), 1)):
            self.assert_checked(paper, True)
            found = 0
            for at, part in enumerate(paper):
                if type(part) is int and part in (0, 1):
                    found += 1
                    self.assert_checked(changed(paper, at, bool(part)), False)
            self.assertGreater(found, 0)

    def test_other_heads(self):
        papers = self.papers()
        for paper, other in product(papers, papers):
            self.assert_checked(changed(paper, 0, other[0]), paper[0] == other[0])

    def test_texts_that_are_none(self):
        for paper in self.papers():
            text = paper[1]
            for wrong in (text + " ", " " + text, text.replace("; ", ";  "), text.replace("M = ", "M ="), text + "; ",
                          text.replace("refuse", "refuses"), text.upper(), text.replace(" = ", " =  "), "",
                          text.encode(), Scheme.read(text), text.replace("when refuse", "when")):
                self.assert_checked(changed(paper, 1, wrong), False)

    def test_right_papers_at_other_sizes_and_with_other_numbers(self):
        for scheme in schemes_of(MORE_WRAPS[:10], FULLS[5:] + FULLS[:2], whens=("refuse", "drop")):
            text = show_scheme(scheme)
            for n in (1, 2, 3, 4, 6, 8):
                right = bool(verdict_of(scheme, n))
                for numbers in product(range(4), range(4)):
                    wanted = right and numbers == plain_divided(scheme, n)
                    self.assert_checked(("right", text, n, *numbers), wanted)
                nothing = plain_modulus(scheme.wrap, n) < 1
                self.assert_checked(("nothing", text, n), nothing)

    def test_right_papers_at_great_sizes(self):
        for scheme, n in ((Scheme.doubled(), GREATEST), (Scheme.masked(100), 2 ** 99), (Scheme.counted(), GREATEST - 1),
                          (scheme_of(100, "mask", "count", ("count", "=", Form(0, 4))), GREATEST),
                          (scheme_of(100, "rest", "count", ("count", "=", Form(0, 4))), GREATEST)):
            paper = paper_of(scheme, n)
            self.assertEqual(paper, ("right", show_scheme(scheme), n, *plain_divided(scheme, n)))
            self.assert_checked(paper, True)
            for at, step in product((2, 3, 4), (-1, 1, 10 ** 20)):
                wrong = changed(paper, at, paper[at] + step)
                self.assert_checked(wrong, wrong == paper_of(scheme, wrong[2]) if at == 2 and wrong[2] <= GREATEST
                                    else False)
        self.assert_checked(("nothing", "M = -5; slot rest; empty same; full next; when over", GREATEST), True)
        self.assert_checked(("nothing", "M = N - 5; slot rest; empty same; full next; when over", GREATEST), False)
        for n in (0, GREATEST + 1, True, "3", None):
            self.assert_checked(("nothing", "M = -5; slot rest; empty same; full next; when over", n), False)

    def test_broken_papers_beside_single_deeds(self):
        texts = ("-", "1 put", "2 put; 1 take", "4 put; 1 take", "6 pair; 3 put; 1 take", "6 pair; 3 put; 9 take",
                 "0 pair; 5 put; 0 take; 4 take; 0 put", "20 pair", "1 take; 9 put; 9 take", "7 pair; 1 put")
        found = {}
        for scheme in schemes_of(MORE_WRAPS[:9] + (Form(1, -3),), FULLS):
            text = show_scheme(scheme)
            for n, run in product((1, 3), texts):
                breaking = plain_breaking_deed(scheme, n, run)
                for deed in {0, 3, 10, breaking or 1, (breaking or 1) + 1}:
                    found[deed == breaking] = True
                    self.assert_checked(("broken", text, n, run, deed), deed == breaking)
        self.assertEqual(set(found), {True, False})

    def test_runs_of_broken_papers(self):
        text = "M = 2**3; slot rest; empty same; full diff = N; when refuse"
        for run, deed in (("6 pair; 3 put; 1 take", 16), ("6 pair; 3 put; 1 take; 5 put", 16), ("6 pair; 3 put; 9 take", 16),
                          ("6 pair; 0 take; 3 put; 0 put; 1 take; 0 pair", 16), (f"6 pair; {MOST} put; {MOST} take", 13 + MOST)):
            self.assert_checked(("broken", text, 3, run, deed), True)
            for wrong in (deed - 1, deed + 1, 0, -1, -deed, None, True, str(deed), (deed,)):
                self.assert_checked(("broken", text, 3, run, wrong), False)
            for wrong in (run + " ", " " + run, run.replace("; ", ";"), run.replace("6", "06"), run.replace("6", "-6"),
                          run.replace("6 ", "6  "), run.replace("pair", "pairs"), Run.read(run), run.encode(), "", None,
                          run.replace("6", "5"), run.replace("6 pair", "7 put"), f"{MOST + 1} put; " + run):
                self.assert_checked(("broken", text, 3, wrong, deed), False)
        self.assert_checked(("broken", text, 3, "; ".join(["6 pair", "3 put", "1 take"] + ["0 put"] * 97), 16), True)
        self.assert_checked(("broken", text, 3, "; ".join(["6 pair", "3 put", "1 take"] + ["0 put"] * 98), 16), False)
        # There is no ring, or no break.
        self.assert_checked(("broken", show_scheme(scheme_of(Form(0, 0))), 3, "1 put", 1), False)
        self.assert_checked(("broken", DOUBLED, 3, f"{MOST} put; {MOST} take", 1), False)

    def test_broken_papers_at_great_sizes(self):
        scheme = Scheme.doubled().remade(wrap=Form(3, 0))
        paper = paper_of(scheme, GREATEST)
        self.assertEqual(paper[3:], (f"{2 * GREATEST} pair; 1 put", 4 * GREATEST + 1))
        self.assert_checked(paper, True)
        self.assert_checked(changed(paper, 3, f"{MOST} pair"), True)
        self.assert_checked(changed(paper, 3, f"{2 * GREATEST - 1} pair; 1 put"), False)
        self.assert_checked(changed(paper, 4, 4 * GREATEST), False)
        self.assert_checked(changed(paper, 2, GREATEST - 1), False)

    def test_papers_on_hands_that_are_right(self):
        found = {}
        for scheme in schemes_of(MORE_WRAPS[:9], WAY_FULLS + (("diff", "=", Form(0, 0)),), whens=("refuse", "drop")):
            text = show_scheme(scheme)
            for n, values in product((2, GREATEST), SWITCHES):
                wanted = False
                if plain_way(scheme):
                    wanted = bool(hands_verdict(Hands(scheme, **switches_told(values)), n))
                numbers = plain_divided(scheme, n) if plain_modulus(scheme.wrap, n) > 0 else (0, 0)
                found[wanted] = True
                self.assert_checked(("hands right", text, n, values, *numbers), wanted)
                for one, other in ((1, 0), (0, 1), (-1, 0)):
                    self.assert_checked(("hands right", text, n, values, numbers[0] + one, numbers[1] + other), False)
        self.assertEqual(set(found), {True, False})

    def test_switches_that_are_none(self):
        for paper in (hands_paper(Hands(Scheme.doubled()), 3), hands_paper(Hands(Scheme.doubled(), writing="last"), 3)):
            values = paper[3]
            for at in range(4):
                for wrong in ("First", "", "none", None, True, 1, ("first",), b"first", ["first"]):
                    self.assert_checked(changed(paper, 3, changed(values, at, wrong)), False)
            for wrong in (values[:3], values + ("one",), list(values), (), None, "".join(values), (values,)):
                self.assert_checked(changed(paper, 3, wrong), False)
            self.assert_checked(paper, True)

    def test_hands_of_no_way(self):
        for scheme in (Scheme.doubled().remade(empty="count"), Scheme.noted().remade(empty="same"),
                       Scheme.doubled().remade(when="drop")):
            self.assert_checked(("hands right", show_scheme(scheme), 4, RIGHT, 2, 0), False)
            self.assert_checked(("hands broken", show_scheme(scheme), 4, RIGHT, 0, ((2, "p"), (2, "t"))), False)

    def test_papers_on_broken_hands_beside_single_steps(self):
        runs = [((2, "p"), (2, "t")), ((2, "p"), (3, "t")), ((3, "p"), (7, "t")), ((0, "t"), (2, "p"), (2, "t"), (0, "p")),
                ((6, "p"), (3, "t"), (2, "p"), (1, "t")), (), ((4, "p"), (8, "t")), ((7, "p"), (4, "t"), (1, "p"), (6, "t")),
                ((9, "p"), (2, "t"), (2, "p"), (1, "t")), ((3, "p"), (2, "t"), (2, "p"), (1, "t")), ((9, "t"),)]
        found = {}
        for scheme, n in right_schemes((1, 2, 3), MORE_WRAPS[:4]):
            text = show_scheme(scheme)
            for values in SWITCHES:
                verdict = hands_verdict(Hands(scheme, **switches_told(values)), n)
                for pieces, start in product(runs + [verdict.run], (0, 2, verdict.start, MOST)):
                    wanted = plain_hands_broken(scheme, n, values, start, pieces)
                    found[wanted] = True
                    self.assert_checked(("hands broken", text, n, values, start, pieces), wanted)
        self.assertEqual(set(found), {True, False})

    def test_one_piece_exchanged(self):
        for scheme, told in ((Scheme.doubled(), {"reading": "last"}), (Scheme.counted(), {"telling": "two"}),
                             (Scheme.noted(), {"telling": "two"}), (Scheme.counted(), {"looking": "kept"})):
            hands = Hands(scheme, **told)
            paper = hands_paper(hands, 3)
            _, text, n, values, start, pieces = paper
            for at, (times, hand) in enumerate(pieces):
                for piece in ((times + 1, hand), (times - 1, hand), (times, "pt"[hand == "p"]), (0, hand), (99, hand)):
                    other = changed(pieces, at, piece)
                    wanted = plain_hands_broken(scheme, n, values, start, other)
                    self.assert_checked(changed(paper, 5, other), wanted)
                for wrong in ((-1, hand), (MOST + 1, hand), (times, "a"), (times,), [times, hand], (times, hand, 1), None,
                              (True, hand), (times, None), hand, times, ()):
                    self.assert_checked(changed(paper, 5, changed(pieces, at, wrong)), False)
            for wrong in (list(pieces), None, pieces[0], str(pieces), {1: pieces}):
                self.assert_checked(changed(paper, 5, wrong), False)
            # Pieces of no steps do not count, wherever they stand.
            self.assert_checked(changed(paper, 5, pieces + ((0, "t"), (0, "p"))), True)
            self.assert_checked(changed(paper, 5, ((0, "t"),) + pieces), True)
            self.assert_checked(changed(paper, 5, pieces + ((1, "t"),)), False)
            for wrong in (-1, MOST + 1, True, None, "0", (0,)):
                self.assert_checked(changed(paper, 4, wrong), False)

    def test_papers_on_broken_hands_at_great_sizes(self):
        hands = Hands(Scheme.doubled(), reading="last")
        paper = hands_paper(hands, GREATEST)
        self.assert_checked(paper, True)
        start, pieces = paper[4:]
        self.assert_checked(changed(paper, 4, MOST), True)
        for at, (times, hand) in enumerate(pieces):
            other = changed(pieces, at, (times + 1, hand))
            broken = Bench(hands, GREATEST, at=start).play(*other)
            wanted = broken is not None and broken[0] == sum(times for times, _ in other)
            self.assert_checked(changed(paper, 5, other), wanted)
        # Where the scheme is not right, nothing is said of hands.
        self.assert_checked(("hands broken", show_scheme(Scheme.spare()), 1, ("last", "first", "each", "one"), 0,
                             ((2, "p"), (2, "t"))), False)

    def test_many_pieces(self):
        pieces = tuple([(1, "p")] * 2 + [(0, "t")] * 5000 + [(1, "t")] * 2)
        self.assert_checked(("hands broken", DOUBLED, GREATEST, ("last", "first", "each", "one"), 5, pieces), True)
