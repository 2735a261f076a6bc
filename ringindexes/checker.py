"""The checker of papers, whoever wrote them: it divides, plays and compares, and searches for nothing."""

from ringindexes.bench import Bench
from ringindexes.errors import NoHands, NoRing, NoRun, NoScheme, NoSteps, NotDecided, NotRight
from ringindexes.handcheck import hands_cause
from ringindexes.hands import SWITCH_NAMES, Hands
from ringindexes.helpers import is_size, is_whole
from ringindexes.papers import divided
from ringindexes.runs import Run
from ringindexes.schemes import Scheme
from ringindexes.slots import wrap_at
from ringindexes.tracks import Track
from ringindexes.verdicts import verdict_of

LENGTHS = {"nothing": 3, "right": 5, "broken": 5, "hands right": 6, "hands broken": 6}


def check_paper(paper):
    """Whether an object is a paper, and what it says is so."""
    if not isinstance(paper, tuple) or len(paper) < 3:
        return False
    head, text, n = paper[:3]
    if not isinstance(head, str) or LENGTHS.get(head, 0) != len(paper) or not is_size(n):
        return False
    scheme = scheme_of(text)
    if scheme is None:
        return False
    return holds(head, scheme, n, paper[3:])


def scheme_of(text):
    """The scheme with this text; None if there is none."""
    try:
        return Scheme.read(text)
    except NoScheme:
        return None


def holds(head, scheme, n, shown):
    """Whether a paper with this head, scheme and size shows what it says."""
    if head == "nothing":
        return wrap_at(scheme.wrap, n) < 1
    if head == "right":
        return bool(verdict_of(scheme, n)) and is_divided(scheme, n, shown)
    if head == "broken":
        return is_broken(scheme, n, shown[0], shown[1])
    hands = hands_of(scheme, shown[0])
    if hands is None:
        return False
    if head == "hands right":
        return hands_cause(hands, n) == "right" and is_divided(scheme, n, shown[1:])
    return hands_break(hands, n, shown[1], shown[2])


def is_divided(scheme, n, numbers):
    """Whether these are the two numbers that papers on what is right show."""
    first, second = numbers
    return is_whole(first) and is_whole(second) and divided(scheme, n) == (first, second)


def is_broken(scheme, n, text, deed):
    """Whether the run of this text breaks a ring at the deed with this number."""
    if not is_whole(deed):
        return False
    try:
        broken = Track(scheme, n).play(Run.read(text))
    except (NoRing, NoRun):
        return False
    return broken is not None and broken[1] == deed


def hands_of(scheme, switches):
    """The hands with these switches; None if there are none."""
    if not isinstance(switches, tuple) or len(switches) != len(SWITCH_NAMES):
        return None
    writing, reading, looking, telling = switches
    try:
        return Hands(scheme, writing=writing, reading=reading, looking=looking, telling=telling)
    except (NotDecided, NoHands):
        return None


def hands_break(hands, n, start, pieces):
    """Whether the last step of these pieces, and none before, breaks a bench that starts so."""
    if not isinstance(pieces, tuple):
        return False
    try:
        broken = Bench(hands, n, at=start).play(*pieces)
    except (NoSteps, NotRight):
        return False
    return broken is not None and broken[0] == sum([int(times) for times, _ in pieces])
