"""Menus of changes, least sets and reasons: points 60 to 62, and (j) of point 3."""

from itertools import combinations, product
from random import Random

from ringindexes.changes import Menu, least_sets, reason_of
from ringindexes.counters import Counter
from ringindexes.errors import NoChange, NoScheme, NoSize, TooLong
from ringindexes.forms import Form
from ringindexes.runs import Run
from ringindexes.schemes import Scheme
from ringindexes.sizes import sizes_of
from ringindexes.sizesets import SizeSet
from ringindexes.tracks import Track
from ringindexes.verdicts import verdict_of
from tests.helpers import NO_INTEGERS, RingCase
from tests.models import N, scheme_of

GREATEST = 10 ** 30
SMALL = "M = 2**3; slot rest; empty same; full diff = N; when refuse"
CHANGES = (("full", ("diff", "=", Form(0, 2))), ("wrap", Form(2, 0)), ("slot", "mask"), ("wrap", 4),
           ("empty", "note"), ("slot", "off"), ("full", ("note",)), ("when", "drop"), ("wrap", Form(1, 0)),
           ("empty", "count"), ("full", ("count", "=", N)), ("when", "refuse"), ("slot", "rest"), ("full", ("next",)),
           ("when", "over"), ("wrap", 2), ("full", ("diff", ">=", Form(1, -1))))
NO_CHANGES = NO_INTEGERS + [0, 1, "wrap", ("wrap",), ("wrap", 1, 2), ["wrap", 1], ("Wrap", 1), ("part", 1), (1, "wrap"),
                            ("wrap", 0), ("wrap", 101), ("wrap", True), ("wrap", "N"), ("wrap", Form(5, 0)),
                            ("wrap", Form(1, 21)), ("wrap", None), ("slot", "masks"), ("slot", None), ("slot", ["mask"]),
                            ("empty", "refuse"), ("full", "next"), ("full", ["next"]), ("full", ("diff", "=", 3)),
                            ("full", ("diff", "<", N)), ("full", ()), ("when", "same"), ("when", None), (("wrap", 1),),
                            (None, None), ("scheme", Scheme.spare()), Form(1, 0), Scheme.spare()]
GOALS = (1, 2, 3, 4, 7, 8, GREATEST, SizeSet.full_set(), SizeSet.none(), SizeSet([], 5, 1, [0]), SizeSet([3], 4, 1, []),
         SizeSet([2, 4, 8], 9, 1, []), SizeSet([], 1, 2, [0]), SizeSet([], 1, 4, [0]), SizeSet([1, 5], 6, 3, [1]))
NO_GOALS = NO_INTEGERS + [0, -1, GREATEST + 1, N, Counter(8, 3), Scheme.spare(), [3], Run()]


def plain_made(scheme, changes, indexes):
    """The scheme with the parts of these changes, or None."""
    names = [changes[k][0] for k in indexes]
    if len(set(names)) < len(names):
        return None
    parts = {name: getattr(scheme, name) for name in ("wrap", "slot", "empty", "full", "when")}
    parts.update([changes[k] for k in indexes])
    try:
        return Scheme(**parts)
    except NoScheme:
        return None


def numbers_of(goal):
    """The numbers of a goal that decide it: one behind another it tells the same again."""
    if isinstance(goal, int):
        return [goal]
    return [n for n in range(1, 700) if n in goal]


def plain_missed(scheme, goal):
    """The least number of a goal at which the verdict is not right, or None."""
    return next((n for n in numbers_of(goal) if not verdict_of(scheme, n)), None)


def all_sets(many):
    return [list(indexes) for size in range(many + 1) for indexes in combinations(range(many), size)]


def plain_least(scheme, changes, goal):
    """The least sets, all sets tried by verdicts."""
    reached = {}
    for indexes in all_sets(len(changes)):
        made = plain_made(scheme, changes, indexes)
        reached[tuple(indexes)] = made is not None and plain_missed(made, goal) is None
    return [list(indexes) for indexes in reached if reached[indexes]
            and not any(reached[part] for part in reached if set(part) < set(indexes))]


def menus(many, seed):
    """Schemes with changes, chosen by chance."""
    chance = Random(seed)
    known = (Scheme.spare(), Scheme.doubled(), Scheme.masked(3), Scheme.counted(), Scheme.noted(), Scheme.read(SMALL),
             scheme_of(Form(2, 1)), scheme_of(Form(0, 0)), scheme_of(N, full=("diff", "=", N), when="over"))
    for _ in range(many):
        yield chance.choice(known), chance.sample(CHANGES, chance.randrange(7))


class MenuTest(RingCase):

    def test_all_sets_of_indexes_beside_the_parts(self):
        made_any = {}
        for scheme, changes in menus(60, 1):
            menu = Menu(scheme, *changes)
            self.assertEqual([len(menu), [menu[k] for k in range(len(menu))]], [len(changes), changes])
            for indexes in all_sets(len(changes)):
                wanted = plain_made(scheme, changes, indexes)
                made_any[wanted is None] = True
                if wanted is None:
                    self.assertIsNone(self.assert_error(NoChange, menu, indexes).at)
                else:
                    made = menu(indexes)
                    self.assertIs(type(made), Scheme)
                    self.assertEqual(made, wanted)
        self.assertEqual(set(made_any), {True, False})

    def test_a_menu_without_changes(self):
        menu = Menu(Scheme.spare())
        self.assertEqual([len(menu), menu([])], [0, Scheme.spare()])
        self.assertIsNone(self.assert_error(NoChange, menu.__getitem__, 0).at)
        self.assertIsNone(self.assert_error(NoChange, menu, [0]).at)

    def test_six_changes_and_seven(self):
        menu = Menu(Scheme.spare(), *CHANGES[:6])
        self.assertEqual([len(menu), menu[5]], [6, CHANGES[5]])
        self.assertIsNone(self.assert_error(NoChange, Menu, Scheme.spare(), *CHANGES[:7]).at)
        # The number of changes comes first.
        self.assertIsNone(self.assert_error(NoChange, Menu, Scheme.spare(), *CHANGES[:6], None).at)

    def test_two_changes_of_one_part(self):
        menu = Menu(Scheme.spare(), ("wrap", 3), ("wrap", 3), ("slot", "rest"))
        self.assertIsNone(self.assert_error(NoChange, menu, [0, 1]).at)
        self.assertEqual([menu([0]), menu([1, 2])], [Scheme.spare().remade(wrap=3)] * 2)

    def test_a_mask_beside_a_form(self):
        menu = Menu(Scheme.spare(), ("slot", "mask"), ("wrap", 3))
        self.assertIsNone(self.assert_error(NoChange, menu, [0]).at)
        self.assertEqual(menu([0, 1]), Scheme.spare().remade(wrap=3, slot="mask"))
        menu = Menu(Scheme.masked(3), ("wrap", N), ("slot", "off"))
        self.assertIsNone(self.assert_error(NoChange, menu, [0]).at)
        self.assertEqual(menu([0, 1]), Scheme.masked(3).remade(wrap=N, slot="off"))

    def test_objects_that_are_no_changes(self):
        for wrong in NO_CHANGES:
            with self.subTest(wrong=wrong):
                self.assertEqual(self.assert_error(NoChange, Menu, Scheme.spare(), wrong).at, 0)
                self.assertEqual(self.assert_error(NoChange, Menu, Scheme.spare(), ("wrap", 3), ("slot", "mask"), wrong,
                                                   wrong, ("when", "drop")).at, 2)

    def test_indexes_that_are_none(self):
        menu = Menu(Scheme.masked(3), *CHANGES[:3])
        for wrong in NO_INTEGERS + [0, 2, (0,), (0, 1), range(2), [-1], [3], [1, 0], [0, 0], [True], [False], [0, True],
                                    ["0"], [None], [(0,)], [[0]], [0, 1, 2, 3], [0, 1.0], {0}, [GREATEST], Form(0, 0)]:
            if wrong == []:
                continue
            with self.subTest(wrong=wrong):
                self.assertIsNone(self.assert_error(NoChange, menu, wrong).at)
        for wrong in NO_INTEGERS + [-1, 3, GREATEST, slice(0, 1), N]:
            self.assertIsNone(self.assert_error(NoChange, menu.__getitem__, wrong).at)
        self.assertEqual([menu([]), menu([0]).full], [Scheme.masked(3), CHANGES[0][1]])

    def test_all_is_kept_and_new(self):
        scheme, indexes = Scheme.spare(), [0]
        menu = Menu(scheme, ("wrap", 3), ("slot", "off"))
        scheme.wrap, scheme.when = 5, "drop"
        made = menu(indexes)
        made.wrap = 7
        self.assertEqual([menu([]), menu(indexes), indexes], [Scheme.spare(), Scheme.spare().remade(wrap=3), [0]])
        self.assertEqual(menu[0], ("wrap", 3))


class LeastSetsTest(RingCase):

    def test_beside_all_sets_tried_by_verdicts(self):
        lengths = {}
        for scheme, changes in menus(40, 2):
            for goal in GOALS:
                told = least_sets(Menu(scheme, *changes), goal)
                self.assertEqual(told, plain_least(scheme, changes, goal))
                lengths[len(told)] = True
                for indexes in told:
                    lengths["of", len(indexes)] = True
        self.assertTrue({0, 1, 2, ("of", 0), ("of", 1), ("of", 2), ("of", 3)} <= set(lengths))

    def test_sets_that_reach_though_lesser_ones_do_not(self):
        # Of these, one alone makes the ring wrong, and both make it right again.
        menu = Menu(Scheme.doubled(), ("wrap", N), ("full", ("next",)), ("slot", "rest"))
        self.assertEqual(least_sets(menu, 5), [[]])
        menu = Menu(scheme_of(N, full=("diff", "=", N)), ("wrap", Form(2, 0)), ("full", ("next",)), ("slot", "off"))
        self.assertEqual(least_sets(menu, 5), [[0], [1]])
        menu = Menu(scheme_of(3, full=("note",), when="over"), ("when", "refuse"), ("full", ("diff", "=", N)),
                    ("slot", "mask"), ("when", "drop"))
        self.assertEqual(least_sets(menu, 4), [[0, 1], [1, 3]])
        self.assertEqual(least_sets(menu, 3), [])

    def test_the_scheme_itself(self):
        menu = Menu(Scheme.spare(), ("wrap", Form(0, 0)), ("full", ("note",)))
        self.assertEqual([least_sets(menu, 2), least_sets(menu, 1)], [[[]], []])
        self.assertEqual(least_sets(Menu(Scheme.spare()), GREATEST), [[]])
        self.assertEqual(least_sets(Menu(Scheme.spare()), SizeSet([], 2, 1, [0])), [[]])
        self.assertEqual(least_sets(Menu(Scheme.spare()), SizeSet.full_set()), [])

    def test_a_goal_without_numbers(self):
        for scheme in (Scheme.spare(), scheme_of(Form(0, 0)), Scheme.masked(6)):
            menu = Menu(scheme, ("wrap", 6))
            self.assertEqual(least_sets(menu, SizeSet.none()), [[]])
            self.assertIsNone(reason_of(menu, [0], SizeSet.none()))
            self.assertIsNone(reason_of(menu, [], SizeSet.none()))
            self.assertEqual(reason_of(menu, [1], SizeSet.none()), ("scheme", None, None))

    def test_great_sizes(self):
        menu = Menu(Scheme.masked(100), ("wrap", Form(2, 0)), ("slot", "off"), ("full", ("diff", "=", Form(0, 2))))
        self.assertEqual(least_sets(menu, GREATEST), [[2], [0, 1]])
        self.assertEqual(reason_of(menu, [], GREATEST), ("slot", GREATEST, verdict_of(Scheme.masked(100), GREATEST).run))

    def test_the_example(self):
        menu = Menu(Scheme.read(SMALL), ("full", ("diff", "=", Form(0, 2))), ("wrap", Form(2, 0)), ("slot", "mask"))
        self.assertEqual([least_sets(menu, 3), reason_of(menu, [2], 3)[0]], [[[0], [1]], "slot"])

    def test_returned_lists_are_new(self):
        menu = Menu(Scheme.read(SMALL), *CHANGES[:3])
        told = least_sets(menu=menu, goal=3)
        told[0].append(5)
        told.clear()
        self.assertEqual(least_sets(menu, 3), [[0], [1]])
        self.assertEqual(set(map(type, least_sets(menu, 3))), {list})


class ReasonTest(RingCase):

    def test_beside_verdicts(self):
        causes = {}
        for scheme, changes in menus(25, 3):
            menu = Menu(scheme, *changes)
            for goal, indexes in product(GOALS, all_sets(len(changes))[:40]):
                told = reason_of(menu, indexes, goal)
                made = plain_made(scheme, changes, indexes)
                if made is None:
                    self.assertEqual(told, ("scheme", None, None))
                    causes["scheme"] = True
                    continue
                n = plain_missed(made, goal)
                if n is None:
                    self.assertIsNone(told)
                    causes[None] = True
                    continue
                verdict = verdict_of(made, n)
                self.assertEqual(told, (verdict.cause, n, verdict.run))
                causes[verdict.cause] = True
                if told[2] is not None:
                    self.assertEqual(Track(made, n).play(told[2])[1], told[2].all_deeds())
        self.assertEqual(set(causes), {None, "scheme", "nothing", "shut", "outside", "empty", "slot"})

    def test_the_least_number_of_a_goal(self):
        scheme = scheme_of(6, "mask", "count", ("count", "=", Form(0, 4)))
        menu = Menu(scheme)
        self.assertEqual(sizes_of(scheme), SizeSet([], 1, 4, [0]))
        self.assertEqual(reason_of(menu, [], SizeSet([4, 8], 9, 4, [0, 1]))[1], 9)
        self.assertEqual(reason_of(menu, [], SizeSet([4, 8], 60, 4, [0, 3]))[1], 63)
        # 252 is a multiple of 4, too.
        self.assertEqual(reason_of(menu, [], SizeSet([4, 8], 200, 63, [0]))[1], 315)
        self.assertIsNone(reason_of(menu, [], SizeSet([4, 8], 200, 64, [0])))
        self.assertEqual(reason_of(Menu(Scheme.spare()), [], SizeSet.full_set()),
                         ("shut", 1, Run((1, "put"))))

    def test_indexes_that_are_none(self):
        menu = Menu(Scheme.spare(), ("slot", "mask"), ("wrap", 3), ("wrap", 4))
        for wrong in (None, (), (1,), [3], [1, 1], [2, 1], [True], "", 1, [1, 2], [0]):
            self.assertEqual(reason_of(menu, wrong, 3), ("scheme", None, None))
            self.assertEqual(reason_of(menu, wrong, SizeSet.full_set()), ("scheme", None, None))

    def test_kinds_of_values(self):
        told = reason_of(menu=Menu(Scheme.spare()), indexes=[], goal=1)
        self.assertEqual([type(told), type(told[1]), type(told[2])], [tuple, int, Run])
        told[2].__iadd__(Run((1, "take")))
        self.assertEqual(reason_of(Menu(Scheme.spare()), [], 1)[2], Run((1, "put")))


class GoalsTest(RingCase):

    def assert_goal_error(self, kind, menu, goal):
        self.assert_error(kind, least_sets, menu, goal)
        for indexes in ([], [0], [99], None):
            self.assert_error(kind, reason_of, menu, indexes, goal)

    def test_objects_that_are_no_goals(self):
        for menu in (Menu(Scheme.spare(), ("slot", "off")), Menu(Scheme.masked(100))):
            for wrong in NO_GOALS:
                with self.subTest(wrong=wrong):
                    self.assert_goal_error(NoSize, menu, wrong)

    def test_widths_of_six_and_seven(self):
        goal = SizeSet([2], 3, 1, [])
        self.assertEqual(least_sets(Menu(Scheme.masked(6), ("wrap", 6)), goal), [[]])
        self.assertIsNone(reason_of(Menu(Scheme.masked(6), ("wrap", 6)), [0], goal))
        for menu in (Menu(Scheme.masked(7)), Menu(Scheme.masked(100), ("slot", "off")), Menu(Scheme.masked(6), ("wrap", 7)),
                     Menu(Scheme.spare(), ("slot", "off"), ("wrap", 100), ("wrap", 3))):
            self.assert_goal_error(TooLong, menu, goal)
            self.assert_goal_error(TooLong, menu, SizeSet.none())
            # A size is a goal beside any width.
            self.assertIs(type(least_sets(menu, 2)), list)

    def test_periods_and_starts(self):
        menu = Menu(Scheme.counted())
        for goal in (SizeSet([], 1, 64, [3]), SizeSet([199], 200, 1, []), SizeSet([199], 200, 64, [3, 5])):
            self.assertEqual([goal.period in (1, 64), goal.start in (1, 200)], [True, True])
            self.assertEqual(least_sets(menu, goal), [[]])
        for goal in (SizeSet([], 1, 65, [3]), SizeSet([200], 201, 1, []), SizeSet([200], 201, 65, [3]),
                     SizeSet([], 1, 5000, [3]), SizeSet([19999], 20000, 1, [])):
            self.assert_goal_error(TooLong, menu, goal)
        # Both are those of the shortest form.
        self.assertEqual(least_sets(menu, SizeSet([], 19000, 5000, [])), [[]])

    def test_nothing_has_changed(self):
        menu = Menu(Scheme.spare(), ("slot", "off"))
        self.assert_goal_error(NoSize, menu, 0)
        self.assert_error(NoChange, menu, [1])
        self.assertEqual([menu([]), menu([0]).slot, len(menu)], [Scheme.spare(), "off", 1])
