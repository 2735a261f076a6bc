"""The console: point 66."""

from itertools import product

from ringindexes.console import Console
from ringindexes.counters import Counter
from ringindexes.errors import NoName, NoRing, NoRow, NoRun, NoScheme, NoSize, TooLong
from ringindexes.forms import Form
from ringindexes.runs import Run, show_run
from ringindexes.schemes import Scheme, show_scheme
from ringindexes.sessions import Session
from ringindexes.sizes import sizes_of
from ringindexes.tracks import Track
from ringindexes.verdicts import verdict_of
from tests.helpers import NO_INTEGERS, RingCase
from tests.models import N, scheme_of, schemes_of

GREATEST = 10 ** 30
FORTY_ONE = "1" + "0" * 40
SMALL = "M = 2**3; slot rest; empty same; full diff = N; when refuse"
NO_ROWS = NO_INTEGERS + [0, ["names"], ("names",), b"names", Form(1, 0), Counter(8, 3), Run(), Scheme.spare()]
NO_NAMES = ("A", "a1", "abcdefghi", "a_b", "-", "a;", "1")
NO_NUMBERS = ("", "07", "00", "-1", "+1", "1.0", "x", "one", FORTY_ONE + "0", "1_0", "N", "1,0", "0x1")


def dashed(part):
    return "-" if part is None else str(part)


class ConsoleCase(RingCase):

    def console(self):
        console = Console()
        console.say(f"keep a {SMALL}")
        console.say(f"keep b {show_scheme(Scheme.noted())}")
        console.say(f"keep wide {show_scheme(Scheme.masked(11))}")
        console.say(f"keep none {show_scheme(scheme_of(Form(1, -5)))}")
        return console

    def told(self, console):
        return [console.say("names")] + [console.say(f"show {name}") for name in console.session.names()]

    def assert_no_row(self, console, row):
        told = self.told(console)
        self.assert_error(NoRow, console.say, row)
        self.assertEqual(self.told(console), told)


class RowsTest(ConsoleCase):

    def test_rows_about_verdicts_beside_the_functions(self):
        console = Console()
        for scheme in schemes_of((N, Form(2, 0), Form(3, 0), Form(1, -3), 3), whens=("refuse", "drop")):
            self.assertEqual(console.say(f"keep a {show_scheme(scheme)}"), "ok")
            for n in (1, 3, 8, GREATEST):
                verdict = verdict_of(scheme, n)
                self.assertEqual(console.say(f"verdict a {n}"),
                                 f"right {verdict.room}" if verdict else verdict.cause)
                run = verdict.run
                self.assertEqual(console.say(f"break a {n}"), "none" if run is None else show_run(run))

    def test_rows_about_tracks_beside_the_functions(self):
        console = Console()
        texts = ("-", "9 put; 2 take", "6 pair; 3 put; 1 take", "4 put; 4 take", "50 pair; 50 put", "2 take", "8 put; 1 take",
                 f"{10 ** 40} pair; {10 ** 40} put; {10 ** 40} take")
        kinds = {}
        for scheme in schemes_of((N, Form(3, 0), 3), whens=("refuse", "over")):
            console.say(f"keep abcdefgh {show_scheme(scheme)}")
            for n, text in product((1, 3, GREATEST), texts):
                track = Track(scheme, n)
                broken = track.play(Run.read(text))
                wanted = f"held {track.held}" if broken is None else " ".join(map(dashed, broken))
                kinds[wanted.split()[0]] = True
                self.assertEqual(console.say(f"track abcdefgh {n} {text}"), wanted)
        self.assertEqual(set(kinds), {"held", "shut", "outside", "empty", "wrong"})

    def test_rows_about_sizes_beside_the_functions(self):
        console = Console()
        shown = {}
        for scheme in list(schemes_of((N, Form(1, -7), Form(4, 20), 4), whens=("refuse",))):
            console.say(f"keep a {show_scheme(scheme)}")
            sizes = sizes_of(scheme)
            early = " ".join(map(str, sizes.early)) or "-"
            rests = " ".join(map(str, sizes.rests)) or "-"
            wanted = f"{early}; from {sizes.start}: {rests} of {sizes.period}"
            shown[early == "-", rests == "-"] = True
            self.assertEqual(console.say("sizes a"), wanted)
        self.assertEqual(len(shown), 4)

    def test_answers_as_they_are_told(self):
        console = self.console()
        for row, answer in (("verdict a 3", "slot"), ("break a 3", "6 pair; 3 put; 1 take"), ("verdict b 7", "right 7"),
                            ("break b 7", "none"), ("verdict none 5", "nothing"), ("break none 5", "none"),
                            ("track a 3 6 pair; 3 put; 1 take", "wrong 16 7 9"), ("track b 7 9 put; 2 take", "held 5"),
                            ("track b 7 -", "held 0"), ("sizes b", "-; from 1: 0 of 1"), ("show a", SMALL),
                            ("names", "a b none wide"), ("sizes none", "-; from 7: 0 of 1")):
            self.assertEqual(console.say(row=row), answer)
        console.say(f"keep out {show_scheme(Scheme.doubled().remade(wrap=Form(3, 0)))}")
        self.assertEqual(console.say("track out 4 9 pair"), "outside 17 - -")
        console.say(f"keep full {show_scheme(scheme_of(N, full=('diff', '=', N)))}")
        self.assertEqual(console.say("track full 4 4 put; 9 take"), "empty 5 1 -")
        console.say(f"keep shut {show_scheme(Scheme.spare())}")
        self.assertEqual(console.say("track shut 1 9 put"), "shut 1 - -")
        console.say(f"keep masked {show_scheme(Scheme.masked(4))}")
        self.assertEqual(console.say("sizes masked"), "1 2 4 8; from 9: - of 1")

    def test_the_example(self):
        console = Console()
        self.assertEqual(console.say("keep a M = N; slot rest; empty note; full note; when refuse"), "ok")
        self.assertEqual([console.say("verdict a 7"), console.say("sizes a"), console.say("track a 7 9 put; 2 take"),
                          console.say("names")], ["right 7", "-; from 1: 0 of 1", "held 5", "a"])

    def test_keep_show_remove_and_names(self):
        console = Console()
        self.assertEqual(console.say("names"), "-")
        for name in ("b", "abcdefgh", "a"):
            self.assertEqual(console.say(f"keep {name} {SMALL}"), "ok")
        self.assertEqual([console.say("names"), console.say("show abcdefgh")], ["a abcdefgh b", SMALL])
        self.assertEqual(console.say(f"keep a {show_scheme(Scheme.spare())}"), "ok")
        self.assertEqual([console.say("names"), console.say("show a")], ["a abcdefgh b", show_scheme(Scheme.spare())])
        self.assertEqual([console.say("remove a"), console.say("names")], ["ok", "abcdefgh b"])
        self.assert_error(NoName, console.say, "show a")
        self.assertEqual([console.say("remove b"), console.say("remove abcdefgh"), console.say("names")], ["ok", "ok", "-"])

    def test_names_that_are_words_of_rows(self):
        console = Console()
        for name in ("names", "keep", "show", "verdict"):
            self.assertEqual(console.say(f"keep {name} {SMALL}"), "ok")
            self.assertEqual(console.say(f"show {name}"), SMALL)

    def test_the_session(self):
        console = Console()
        session = console.session
        self.assertIs(type(session), Session)
        self.assertIs(console.session, session)
        session["a"] = Scheme.noted()
        self.assertEqual(console.say("show a"), show_scheme(Scheme.noted()))
        console.say(f"keep b {SMALL}")
        self.assertEqual([session["b"], session.names()], [Scheme.read(SMALL), ["a", "b"]])
        session.play("a", Run((1, "put")))
        console.say(f"track a 7 5 put")
        self.assertEqual(session.played("a"), Run((1, "put")))
        console.say(f"keep a {show_scheme(Scheme.noted())}")
        self.assertEqual(session.played("a"), Run())
        self.assertEqual(Console().say("names"), "-")


class WrongRowsTest(ConsoleCase):

    def test_objects_that_are_no_strings(self):
        console = self.console()
        for wrong in NO_ROWS:
            if not isinstance(wrong, str):
                self.assert_no_row(console, wrong)

    def test_words_too_few_or_too_many(self):
        console = self.console()
        for row in ("", " ", "names ", " names", "names a", "name", "Names", "show", "show ", "show a ", "show a b", "remove",
                    "remove a b", "sizes", "sizes a 3", "verdict", "verdict a", "verdict a ", "verdict a 3 ", "verdict a 3 4",
                    "break a", "break a 3 -", "track a", "track a 3", "track", f"keep a", "keep", f"keep {SMALL}", SMALL,
                    "put a 3", "names\n", "show\ta", "verdicts a 3"):
            with self.subTest(row=row):
                self.assert_no_row(console, row)

    def test_two_spaces(self):
        console = self.console()
        for row in ("show  a", "remove  a", "verdict a  3", "verdict  a 3", "track a  3 -", "track  a 3 -", "keep  a " + SMALL,
                    "sizes  a", "break  a 3", " show a"):
            self.assert_no_row(console, row)
        # What follows behind the last space is the text, a space ahead of it included.
        self.assertEqual(self.assert_error(NoScheme, console.say, f"keep a  {SMALL}").part, "text")
        self.assertIsNone(self.assert_error(NoRun, console.say, "track a 3  -").at)

    def test_names_that_are_none(self):
        console = self.console()
        for wrong in NO_NAMES:
            for row in (f"keep {wrong} {SMALL}", f"keep {wrong} x", f"show {wrong}", f"remove {wrong}", f"verdict {wrong} 3",
                        f"break {wrong} 3", f"track {wrong} 3 -", f"sizes {wrong}", f"verdict {wrong} x"):
                self.assert_no_row(console, row)

    def test_numbers_that_are_none(self):
        console = self.console()
        for name, wrong in product(("a", "z"), NO_NUMBERS):
            for row in (f"verdict {name} {wrong}", f"break {name} {wrong}", f"track {name} {wrong} -",
                        f"track {name} {wrong} 1 put"):
                self.assert_no_row(console, row)

    def test_numbers_of_41_digits(self):
        console = self.console()
        for number in (FORTY_ONE, "9" * 41, str(GREATEST + 1), "0"):
            for row in (f"verdict a {number}", f"break none {number}", f"track none {number} x"):
                self.assert_error(NoSize, console.say, row)
        self.assertEqual(console.say(f"verdict b {GREATEST}"), f"right {GREATEST}")

    def test_nothing_is_kept(self):
        console = self.console()
        told = self.told(console)
        for row in ("show z", "remove z", "verdict z 0", "break z 3", "track z 0 x", "sizes z", "track z 3 "):
            self.assert_error(NoName, console.say, row)
        self.assertEqual(self.told(console), told)

    def test_errors_of_what_is_done(self):
        console = self.console()
        told = self.told(console)
        for text in ("", "M = N", SMALL + " ", SMALL.replace("3", "101"), "x"):
            for name in ("a", "z"):
                self.assertEqual(self.assert_error(NoScheme, console.say, f"keep {name} {text}").part, "text")
        self.assert_error(TooLong, console.say, "sizes wide")
        for row in ("track none 5 x", "track none 1 -"):
            self.assert_error(NoRing, console.say, row)
        for row in ("track a 3 ", "track a 3 x", "track a 3 1 put;2 take", "track a 3 01 put", "track a 3 - ",
                    "track a 3 " + "; ".join(["1 put"] * 101)):
            self.assertIsNone(self.assert_error(NoRun, console.say, row).at)
        self.assertEqual(self.told(console), told)

    def test_twenty_names_and_one_more(self):
        console = Console()
        for letter in "abcdefghijklmnopqrst":
            console.say(f"keep {letter} {SMALL}")
        self.assert_error(TooLong, console.say, f"keep u {SMALL}")
        self.assertEqual(self.assert_error(NoScheme, console.say, "keep u x").part, "text")
        self.assertEqual(console.say(f"keep t {SMALL}"), "ok")
        self.assertEqual(console.say("names"), " ".join("abcdefghijklmnopqrst"))
