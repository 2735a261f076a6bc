"""Menus of changes, and the least sets of them that make a scheme reach a goal."""

from math import lcm

from ringindexes.errors import NoChange, NoScheme, NoSize, TooLong
from ringindexes.forms import Form
from ringindexes.helpers import is_size, is_whole_from, is_word_of
from ringindexes.schemes import PART_NAMES, copied_scheme, is_part
from ringindexes.sizes import sizes_of
from ringindexes.sizesets import SizeSet, is_ascending
from ringindexes.verdicts import verdict_of

MOST_CHANGES = 6
GREATEST_GOAL_WIDTH = 6
GREATEST_GOAL_PERIOD = 64
GREATEST_GOAL_START = 200


class Menu:
    """A scheme and changes (part, value) of it, numbered from 0."""

    def __init__(self, scheme, *changes):
        check_changes(changes)
        self._scheme = copied_scheme(scheme)
        self._changes = changes

    def __len__(self):
        return len(self._changes)

    def __getitem__(self, at):
        if not is_whole_from(at, 0, len(self._changes) - 1):
            raise NoChange(None)
        return self._changes[at]

    def __iter__(self):
        raise TypeError("changes are asked for one by one, by their numbers")

    def __call__(self, indexes):
        """A new scheme: the menu's with the changes of these numbers."""
        if not is_ascending(indexes, 0, len(self._changes) - 1):
            raise NoChange(None)
        parts = {}
        for at in indexes:
            part, value = self._changes[at]
            if part in parts:
                raise NoChange(None)
            parts[part] = value
        return self._with_parts(parts)

    def _with_parts(self, parts):
        try:
            return self._scheme.remade(**parts)
        except NoScheme:
            raise NoChange(None) from None

    def all_wraps(self):
        """The wraps that a scheme of this menu may have."""
        return [self._scheme.wrap] + [value for part, value in self._changes if part == "wrap"]


def check_changes(changes):
    """NoChange for too many changes, then for the first object that is none."""
    if len(changes) > MOST_CHANGES:
        raise NoChange(None)
    for at, change in enumerate(changes):
        if not is_change(change):
            raise NoChange(at)


def is_change(thing):
    """Whether the object is a change of one part."""
    if not isinstance(thing, tuple) or len(thing) != 2:
        return False
    return is_word_of(thing[0], PART_NAMES) and is_part(thing[0], thing[1])


def check_goal(menu, goal):
    """NoSize for any object that is no goal, then TooLong for a set of sizes that is not told beside this menu."""
    if is_size(goal):
        return
    if not isinstance(goal, SizeSet):
        raise NoSize("a goal is a size or a set of sizes")
    if True in [is_wide(wrap) for wrap in menu.all_wraps()]:
        raise TooLong("sets of sizes are reached by widths to 6 alone")
    if goal.period > GREATEST_GOAL_PERIOD or goal.start > GREATEST_GOAL_START:
        raise TooLong("the period of a goal is at most 64, its start at most 200")


def is_wide(wrap):
    """Whether a wrap is a width beside which no set of sizes is a goal."""
    return not isinstance(wrap, Form) and wrap > GREATEST_GOAL_WIDTH


def least_sets(menu, goal):
    """The least sets of indexes whose changes reach the goal."""
    check_goal(menu, goal)
    found = []
    for indexes in index_sets(len(menu)):
        # A set is looked at behind all that it has within it.
        if not holds_one_of(indexes, found) and reaches(made_scheme(menu, indexes), goal):
            found.append(indexes)
    return found


def index_sets(many):
    """All ascending lists of numbers below many, shorter ones first."""
    found = []
    longest = [[]]
    while len(longest) > 0:
        found = found + longest
        longest = [indexes + [at] for indexes in longest for at in range(first_behind(indexes), many)]
    return found


def first_behind(indexes):
    """The least number that can follow in an ascending list."""
    if len(indexes) == 0:
        return 0
    return indexes[-1] + 1


def holds_one_of(indexes, sets):
    """Whether all numbers of one of these lists are among the indexes."""
    for part in sets:
        if all([at in indexes for at in part]):
            return True
    return False


def made_scheme(menu, indexes):
    """The scheme that the menu makes of these indexes; None if it makes none."""
    try:
        return menu(indexes)
    except NoChange:
        return None


def reaches(scheme, goal):
    """Whether there is a scheme, and it reaches the goal."""
    return scheme is not None and first_missed(scheme, goal) is None


def first_missed(scheme, goal):
    """The least size of the goal at which the scheme is not right, or None."""
    if not isinstance(goal, SizeSet):
        return None if verdict_of(scheme, goal) else goal
    sizes = sizes_of(scheme)
    # Behind both starts what both sets tell of sizes repeats itself with a common period.
    end = goal.start + sizes.start + lcm(goal.period, sizes.period)
    for n in goal.below(end):
        if n not in sizes:
            return n
    return None


def reason_of(menu, indexes, goal):
    """Why the scheme that the menu makes of these indexes does not reach the goal; None if it does."""
    check_goal(menu, goal)
    scheme = made_scheme(menu, indexes)
    if scheme is None:
        return "scheme", None, None
    n = first_missed(scheme, goal)
    if n is None:
        return None
    verdict = verdict_of(scheme, n)
    return verdict.cause, n, verdict.run
