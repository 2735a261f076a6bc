"""Sessions, runs that are kept, and trials: points 63 to 65, and (k) of point 3."""

from random import Random

from ringindexes.counters import Counter
from ringindexes.errors import Nested, NoName, NoRing, NoRun, NoScheme, NoSize, RingError, TooLong
from ringindexes.forms import Form
from ringindexes.hands import Hands
from ringindexes.runs import Run
from ringindexes.schemes import Scheme
from ringindexes.sessions import Session
from ringindexes.tracks import Track
from tests.helpers import NO_INTEGERS, NO_SIZES, RingCase
from tests.models import N, scheme_of

GREATEST = 10 ** 30
NAMES = ["a", "b", "z", "ab", "abc", "queue", "rings", "abcdefgh", "zzzzzzzz", "put"]
NO_NAMES = NO_INTEGERS + [0, 1, "A", "aB", "a1", "a b", " a", "a ", "a_b", "-", "abcdefghi", "a" * 5000, ("a",), ["a"], b"a",
                          N, Counter(8, 3), Scheme.spare(), Run()]
NO_SCHEMES = NO_INTEGERS + [1, "M = N", "scheme", Form(1, 0), Run(), Counter(8, 3), Hands(Scheme.spare()), Scheme]
NO_RUNS = NO_INTEGERS + [1, "1 put", (1, "put"), ((1, "put"),), [(1, "put")], Form(1, 0), Scheme.spare(), Run]
RUN = Run((3, "put"), (2, "take"))


def state(session):
    """All that a session tells of what it keeps."""
    return {name: (session[name], session.played(name)) for name in session.names()}, len(session), session.trying


def full_session():
    session = Session()
    for k in range(20):
        session["abcdefghijklmnopqrst"[k]] = Scheme.masked(k + 1)
    return session


class SessionCase(RingCase):

    def session(self):
        session = Session()
        session["a"] = Scheme.doubled()
        session["b"] = Scheme.noted()
        session.play("a", RUN)
        return session

    def assert_same(self, session, told):
        self.assertEqual(state(session), told)


class TableTest(SessionCase):

    def test_deed_by_deed_beside_a_plain_table(self):
        chance = Random(7)
        schemes = [Scheme.spare(), Scheme.doubled(), Scheme.counted(), Scheme.noted(), Scheme.masked(5)]
        for _ in range(60):
            session, table = Session(), {}
            for _ in range(60):
                name = chance.choice(NAMES)
                deed = chance.randrange(6)
                if deed < 2:
                    scheme = chance.choice(schemes)
                    told = session.keep(name, scheme) if deed else session.__setitem__(name, scheme)
                    self.assertIsNone(told)
                    table[name] = [scheme.remade(), []]
                elif name not in table:
                    for call, args in ((session.remove, ()), (session.change, ("when", "drop")), (session.play, (RUN,)),
                                       (session.played, ()), (session.break_at, (3,)), (session.__getitem__, ())):
                        self.assert_error(NoName, call, name, *args)
                elif deed == 2:
                    self.assertIsNone(session.remove(name))
                    del table[name]
                elif deed == 3:
                    when = chance.choice(("refuse", "drop", "over"))
                    self.assertIsNone(session.change(name, "when", when))
                    table[name][0].when = when
                else:
                    pieces = [(chance.randrange(9), chance.choice(("put", "take", "pair"))) for _ in range(deed)]
                    self.assertIsNone(session.play(name, Run(*pieces)))
                    table[name][1] += pieces
                self.assert_table(session, table)

    def assert_table(self, session, table):
        self.assertEqual([session.names(), len(session)], [sorted(table), len(table)])
        for name in NAMES:
            self.assertIs(name in session, name in table)
        for name, (scheme, pieces) in table.items():
            self.assertEqual([session[name], session.played(name).pieces], [scheme, pieces])
            self.assertEqual(session.break_at(name, 3), Track(scheme, 3).play(Run(*pieces)))

    def test_a_new_session(self):
        session = Session()
        self.assertEqual([session.names(), len(session), session.trying, "a" in session], [[], 0, False, False])
        self.assertIs(type(session.names()), list)

    def test_names_of_eight_letters_and_of_nine(self):
        session = Session()
        session["abcdefgh"] = Scheme.spare()
        self.assertEqual(session.names(), ["abcdefgh"])
        self.assert_error(NoName, session.keep, "abcdefghi", Scheme.spare())
        self.assert_error(NoName, session.__setitem__, "", Scheme.spare())

    def test_twenty_names_and_one_more(self):
        session = full_session()
        told = state(session)
        self.assertEqual(len(session), 20)
        self.assert_error(TooLong, session.keep, "u", Scheme.spare())
        self.assert_error(TooLong, session.__setitem__, "u", Scheme.spare())
        # The name comes first, then the scheme.
        self.assert_error(NoName, session.keep, "U", None)
        self.assertEqual(self.assert_error(NoScheme, session.keep, "u", None).part, "scheme")
        self.assert_same(session, told)
        session["t"] = Scheme.spare()
        self.assertEqual([session["t"], len(session)], [Scheme.spare(), 20])
        session.remove("a")
        session["u"] = Scheme.noted()
        self.assertEqual([session["u"], len(session)], [Scheme.noted(), 20])

    def test_what_is_kept_is_copied(self):
        session, scheme = self.session(), Scheme.counted()
        session["c"] = scheme
        scheme.when = "over"
        self.assertEqual(session["c"], Scheme.counted())
        session["c"].when = "over"
        session["c"].change("empty", "note")
        self.assertEqual(session["c"], Scheme.counted())
        run = Run((1, "put"))
        session.play("c", run)
        run += Run((5, "take"))
        self.assertEqual(session.played("c"), Run((1, "put")))
        played = session.played("c")
        played += Run((5, "take"))
        session.names().append("d")
        self.assertEqual([session.played("c"), session.names()], [Run((1, "put")), ["a", "b", "c"]])

    def test_objects_that_are_no_names(self):
        session = self.session()
        told = state(session)
        for wrong in NO_NAMES + ["c", "aa"]:
            with self.subTest(wrong=wrong):
                if wrong not in ("c", "aa"):
                    self.assert_error(NoName, session.keep, wrong, Scheme.spare())
                    self.assert_error(NoName, session.__setitem__, wrong, None)
                for call, args in ((session.remove, ()), (session.__getitem__, ()), (session.change, ("part", None)),
                                   (session.play, (None,)), (session.played, ()), (session.break_at, (0,))):
                    self.assert_error(NoName, call, wrong, *args)
                self.assertIs(wrong in session, False)
        self.assert_same(session, told)

    def test_objects_that_are_no_schemes(self):
        session = self.session()
        told = state(session)
        for wrong in NO_SCHEMES:
            for name in ("a", "c"):
                self.assertEqual(self.assert_error(NoScheme, session.keep, name, wrong).part, "scheme")
                self.assertEqual(self.assert_error(NoScheme, session.__setitem__, name, wrong).part, "scheme")
        self.assert_same(session, told)

    def test_changes_of_parts(self):
        session = self.session()
        session.change("a", "wrap", 5)
        session.change(name="a", part="slot", value="mask")
        self.assertEqual([session["a"], session.played("a")], [Scheme.masked(5), RUN])
        told = state(session)
        for part, value, named in (("part", None, "part"), (None, "mask", "part"), ("Wrap", 5, "part"), ("wrap", 0, "wrap"),
                                   ("wrap", N, "wrap"), ("slot", "none", "slot"), ("empty", None, "empty"),
                                   ("full", ("next", 1), "full"), ("when", True, "when"), (["wrap"], 5, "part")):
            self.assertEqual(self.assert_error(NoScheme, session.change, "a", part, value).part, named)
        self.assertEqual(self.assert_error(NoScheme, session.change, "b", "slot", "mask").part, "slot")
        self.assert_same(session, told)


class RunsTest(SessionCase):

    def test_runs_that_are_kept(self):
        session = self.session()
        self.assertEqual([session.played("a"), session.played("b")], [RUN, Run()])
        session.play("a", Run((4, "put")))
        self.assertEqual(session.played("a"), RUN + Run((4, "put")))
        self.assertIs(type(session.played("a")), Run)
        # Another scheme by the name begins anew, a changed one goes on.
        session.change("a", "when", "drop")
        self.assertEqual(session.played("a"), RUN + Run((4, "put")))
        session["a"] = session["a"]
        self.assertEqual(session.played("a"), Run())
        session.play("a", RUN)
        session.keep("a", Scheme.spare())
        self.assertEqual(session.played("a"), Run())
        session.play("a", RUN)
        session.remove("a")
        session["a"] = Scheme.spare()
        self.assertEqual(session.played("a"), Run())

    def test_a_run_of_just_a_hundred_pieces(self):
        session = self.session()
        session.play("b", Run((1, "put")) * 60)
        session.play("b", Run((1, "take")) * 40)
        self.assertEqual(len(session.played("b")), 100)
        told = state(session)
        self.assertIsNone(self.assert_error(NoRun, session.play, "b", Run((0, "put"))).at)
        self.assertIsNone(self.assert_error(NoRun, session.play, "b", Run((0, "put")) * 100).at)
        session.play("b", Run())
        self.assert_same(session, told)

    def test_objects_that_are_no_runs(self):
        session = self.session()
        told = state(session)
        for wrong in NO_RUNS:
            self.assertIsNone(self.assert_error(NoRun, session.play, "a", wrong).at)
        self.assert_same(session, told)

    def test_breaks(self):
        session = Session()
        session["a"] = Scheme.read("M = 2**3; slot rest; empty same; full diff = N; when refuse")
        self.assertIsNone(session.break_at("a", 3))
        session.play("a", Run.read("6 pair; 3 put"))
        self.assertIsNone(session.break_at(name="a", n=3))
        session.play("a", Run.read("1 take"))
        self.assertEqual(session.break_at("a", 3), ("wrong", 16, 7, 9))
        # Each time it is a new track.
        self.assertEqual(session.break_at("a", 3), ("wrong", 16, 7, 9))
        self.assertIsNone(session.break_at("a", 4))
        session["b"] = Scheme.doubled().remade(wrap=Form(3, 0))
        session.play("b", Run((2 * GREATEST, "pair"), (1, "put")))
        self.assertEqual(session.break_at("b", GREATEST), ("outside", 4 * GREATEST + 1, None, None))

    def test_wrong_sizes(self):
        session = self.session()
        session["c"] = scheme_of(Form(1, -3))
        for wrong in NO_SIZES:
            for name in ("a", "c"):
                self.assert_error(NoSize, session.break_at, name, wrong)
        for n in (1, 2, 3):
            self.assert_error(NoRing, session.break_at, "c", n)
        self.assertIsNone(session.break_at("c", 4))


class Stop(Exception):
    """An error of a test's own."""


def changed_all(session):
    """Change all that a session keeps."""
    session.remove("b")
    session["c"] = Scheme.counted()
    session.change("a", "when", "drop")
    session.play("a", Run((9, "pair")))
    session.play("c", RUN)


class TrialTest(SessionCase):

    def test_a_trial_that_ends_well(self):
        session = self.session()
        with session.trial() as same:
            self.assertIs(same, session)
            self.assertIs(session.trying, True)
            changed_all(same)
            inside = state(session)[:2]
        self.assertIs(session.trying, False)
        self.assertEqual(state(session)[:2], inside)
        self.assertEqual([session.names(), session["a"].when, session.played("a")],
                         [["a", "c"], "drop", RUN + Run((9, "pair"))])

    def test_a_trial_that_an_error_leaves(self):
        for error in (Stop("x"), NoName("x"), NoScheme("wrap"), KeyError(1), KeyboardInterrupt()):
            session = self.session()
            told = state(session)
            with self.assertRaises(type(error)) as caught:
                with session.trial():
                    changed_all(session)
                    raise error
            self.assertIs(caught.exception, error)
            self.assert_same(session, told)
            # What is kept by a name goes on as ever.
            session.change("a", "when", "over")
            session.play("b", RUN)
            self.assertEqual([session["a"].when, session.played("b")], ["over", RUN])

    def test_an_error_within_the_block_that_does_not_leave_it(self):
        session = self.session()
        with session.trial():
            session.change("a", "when", "drop")
            self.assert_error(NoName, session.remove, "z")
            self.assert_error(NoScheme, session.change, "a", "wrap", 0)
        self.assertEqual(session["a"].when, "drop")

    def test_a_trial_is_left_by_return_and_break(self):
        session = self.session()

        def left():
            with session.trial():
                session.remove("a")
                return 5
        self.assertEqual([left(), session.names(), session.trying], [5, ["b"], False])
        for _ in range(3):
            with session.trial():
                session.remove("b")
                break
        self.assertEqual([session.names(), session.trying], [[], False])

    def test_trials_one_behind_the_other(self):
        session = self.session()
        trial = session.trial()
        session.change("a", "when", "drop")
        told = state(session)
        for _ in range(3):
            # It begins where the block begins, not where it was made.
            with self.assertRaises(Stop):
                with trial:
                    changed_all(session)
                    raise Stop
            self.assert_same(session, told)
        with trial:
            session.remove("a")
        self.assertEqual(session.names(), ["b"])

    def test_a_trial_within_a_trial(self):
        session = self.session()
        told = state(session)
        with session.trial():
            inner = session.trial()
            inside = state(session)
            self.assert_error(Nested, inner.__enter__)
            for call, args in ((session.within, (None,)), (session.attempt, ()), (session.attempt, (None,)),
                               (session.attempt, (("z", "part", None),)), (session.within, (changed_all,))):
                self.assert_error(Nested, call, *args)
            self.assert_same(session, inside)
            self.assertIs(session.trying, True)
        self.assert_same(session, told)
        # An inner one that is not caught leaves the outer block, too.
        with self.assertRaises(Nested):
            with session.trial():
                changed_all(session)
                with session.trial():
                    self.fail("the block of the inner trial is not reached")
        self.assert_same(session, told)
        # Another session is another matter.
        with session.trial(), self.session().trial() as other:
            self.assertEqual([session.trying, other.trying], [True, True])

    def test_within(self):
        session = self.session()
        seen = []

        def visitor(same):
            seen.extend([same, same.trying])
            changed_all(same)
            return "told"
        self.assertEqual(session.within(visitor=visitor), "told")
        self.assertIs(seen[0], session)
        self.assertEqual([seen[1], session.names(), session.trying], [True, ["a", "c"], False])
        self.assertIsNone(session.within(lambda same: same.remove("c")))
        self.assertEqual(session.names(), ["a"])

    def test_within_that_an_error_leaves(self):
        session = self.session()
        told = state(session)

        def visitor(same):
            changed_all(same)
            same.remove("b")
        self.assert_error(NoName, session.within, visitor)
        self.assert_same(session, told)
        for inner in (lambda same: same.within(changed_all), lambda same: same.attempt(("a", "when", "drop"))):
            self.assert_error(Nested, session.within, inner)
            self.assert_same(session, told)

    def test_attempt(self):
        session = self.session()
        self.assertIsNone(session.attempt())
        self.assertIsNone(session.attempt(("a", "wrap", 5), ("b", "when", "drop"), ("a", "slot", "mask")))
        self.assertEqual([session["a"], session["b"]], [Scheme.masked(5), Scheme.noted().remade(when="drop")])
        self.assertEqual([session.played("a"), session.trying], [RUN, False])

    def test_attempts_that_an_error_leaves(self):
        session = self.session()
        told = state(session)
        for changes, kind in (((("a", "when", "drop"), ("z", "when", "drop")), NoName),
                              ((("a", "when", "drop"), ("b", "when", "none")), NoScheme),
                              ((("a", "slot", "mask"), ("a", "wrap", 5)), NoScheme),
                              ((("a", "wrap", 5), ("a", "slot", "mask"), ("b", "part", None)), NoScheme),
                              ((("A", "part", None),), NoName)):
            with self.assertRaises(RingError) as caught:
                session.attempt(*changes)
            self.assertIs(type(caught.exception), kind)
            self.assert_same(session, told)

    def test_names_and_runs_of_a_full_session(self):
        session = full_session()
        told = state(session)

        def visitor(same):
            same.remove("a")
            same["u"] = Scheme.spare()
            same["v"] = Scheme.spare()
        self.assert_error(TooLong, session.within, visitor)
        self.assert_same(session, told)
