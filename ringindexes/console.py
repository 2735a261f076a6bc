"""A console: rows that are asked, and the strings by which they are answered."""

from ringindexes.errors import NoRow
from ringindexes.helpers import read_number
from ringindexes.runs import Run, show_run
from ringindexes.schemes import Scheme, show_scheme
from ringindexes.sessions import Session, is_name
from ringindexes.sizes import sizes_of
from ringindexes.tracks import Track
from ringindexes.verdicts import verdict_of

MOST_DIGITS = 41
# How many blanks of a row part its words; what follows the last of them may have blanks of its own.
BLANKS = {"keep": 2, "show": 1, "remove": 1, "names": 0, "verdict": 2, "break": 2, "track": 3, "sizes": 1}
NUMBERED = ("verdict", "break", "track")


class Console:
    """A session that is asked by rows."""

    def __init__(self):
        self._session = Session()

    @property
    def session(self):
        return self._session

    def say(self, row):
        """Do what a row asks for; the answer."""
        words = words_of(row)
        if words[0] == "names":
            return show_words(self._session.names())
        if words[0] == "keep":
            self._session.keep(words[1], Scheme.read(words[2]))
            return "ok"
        scheme = self._session[words[1]]
        if words[0] == "remove":
            self._session.remove(words[1])
            return "ok"
        return answer_of(scheme, words)


def words_of(row):
    """The words of a row, the number among them as an integer; NoRow for any other object."""
    if not isinstance(row, str):
        raise NoRow("a row is a string")
    head = row.partition(" ")[0]
    if head not in BLANKS:
        raise NoRow("a row begins with what is asked for")
    words = row.split(" ", BLANKS[head])
    if words[0] != head or len(words) <= BLANKS[head]:
        raise NoRow("a row has a word too few or too many")
    if len(words) > 1 and not is_name(words[1]):
        raise NoRow("this is no name")
    if head in NUMBERED:
        words[2] = read_size(words[2])
    return words


def read_size(word):
    """The number that is written so; NoRow for any other word."""
    number = read_number(word, MOST_DIGITS)
    if number is None:
        raise NoRow("this is no number")
    return number


def answer_of(scheme, words):
    """The answer to a row that asks for something about a scheme."""
    if words[0] == "show":
        return show_scheme(scheme)
    if words[0] == "sizes":
        return show_sizes(sizes_of(scheme))
    if words[0] == "verdict":
        return show_verdict(verdict_of(scheme, words[2]))
    if words[0] == "break":
        return show_break(verdict_of(scheme, words[2]))
    track = Track(scheme, words[2])
    track.play(Run.read(words[3]))
    return show_track(track)


def show_words(words):
    """Words with one space between, or a line."""
    if len(words) == 0:
        return "-"
    return " ".join([str(word) for word in words])


def show_sizes(sizes):
    """The text of a set of sizes."""
    return f"{show_words(sizes.early)}; from {sizes.start}: {show_words(sizes.rests)} of {sizes.period}"


def show_verdict(verdict):
    """The text of a verdict: its cause, and what is right with its room."""
    if verdict:
        return f"right {verdict.room}"
    return verdict.cause


def show_break(verdict):
    """The text of a verdict's run."""
    if verdict.run is None:
        return "none"
    return show_run(verdict.run)


def show_track(track):
    """The text of how a track stands."""
    if track.broken is None:
        return f"held {track.held}"
    return show_words(["-" if part is None else part for part in track.broken])
