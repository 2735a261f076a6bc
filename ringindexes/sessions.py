"""Sessions: schemes that are kept by names, with a run each, and trials that leave no trace of an error."""

from ringindexes.errors import Nested, NoName, NoRun, NoScheme, TooLong
from ringindexes.runs import Run
from ringindexes.schemes import Scheme, copied_scheme
from ringindexes.tracks import Track

LONGEST_NAME = 8
MOST_NAMES = 20


class Session:
    """A table of schemes and runs by names.

    What the table holds is never changed, only exchanged; so a copy of the table keeps a state.
    """

    def __init__(self):
        self._table = {}
        self._trying = False

    def __getitem__(self, at):
        return copied_scheme(self._scheme_at(at))

    def __setitem__(self, at, worth):
        self.keep(at, worth)

    def __contains__(self, x):
        return is_name(x) and x in self._table

    def __len__(self):
        return len(self._table)

    def __iter__(self):
        raise TypeError("the names of a session are told by names()")

    def keep(self, name, scheme):
        """Keep a copy of a scheme, with a run without pieces."""
        if not is_name(name):
            raise NoName("a name is one to eight letters from a to z")
        if not isinstance(scheme, Scheme):
            raise NoScheme("scheme")
        if name not in self._table and len(self._table) >= MOST_NAMES:
            raise TooLong("a session keeps at most twenty schemes")
        self._table[name] = (copied_scheme(scheme), Run())

    def names(self):
        """All names, in ascending order."""
        return sorted([str(name) for name in self._table])

    def remove(self, name):
        """Keep no scheme by this name any more."""
        self._check_kept(name)
        del self._table[name]

    def change(self, name, part, value):
        """Assign a part of the scheme of this name; its run stays."""
        changed = copied_scheme(self._scheme_at(name))
        changed.change(part, value)
        self._table[name] = (changed, self._run_at(name))

    def play(self, name, run):
        """Add the pieces of a run to the one that is kept by this name."""
        self._check_kept(name)
        if not isinstance(run, Run):
            raise NoRun(None)
        self._table[name] = (self._scheme_at(name), self._run_at(name) + run)

    def played(self, name):
        """A new run with the pieces of the one that is kept by this name."""
        self._check_kept(name)
        return self._run_at(name) + Run()

    def break_at(self, name, n):
        """What a new track of this scheme returns when it plays its run."""
        return Track(self._scheme_at(name), n).play(self._run_at(name))

    def trial(self):
        """What a `with` takes to undo all, if an error leaves its block."""
        return Trial(self)

    def within(self, visitor):
        """Call a function with the session, in a trial."""
        with self.trial() as same:
            return visitor(same)

    def attempt(self, *changes):
        """Do changes (name, part, value), in a trial."""
        with self.trial():
            for name, part, value in changes:
                self.change(name, part, value)

    @property
    def trying(self):
        return self._trying

    def begin(self):
        """Begin a trial; a copy of the table as it is."""
        if self._trying:
            raise Nested("a trial within a trial")
        self._trying = True
        return {name: self._table[name] for name in self._table}

    def _check_kept(self, name):
        if name not in self:
            raise NoName("nothing is kept by this name")

    def _scheme_at(self, name):
        self._check_kept(name)
        return self._table[name][0]

    def _run_at(self, name):
        return self._table[name][1]


class Trial:
    """A block in which a session goes back to its beginning, if an error leaves it."""

    def __init__(self, session):
        self._owner = session
        self._before = None

    def __enter__(self):
        self._before = self._owner.begin()
        return self._owner

    def __exit__(self, kind, value, trace):
        owner = self._owner
        owner._trying = False
        if kind is not None:
            owner._table = self._before


def is_name(thing):
    """Whether the object is a name."""
    if not isinstance(thing, str) or not 1 <= len(thing) <= LONGEST_NAME:
        return False
    return thing.isascii() and thing.isalpha() and thing.islower()
