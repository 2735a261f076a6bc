"""Hands and their switches: point 48."""

from itertools import product

from ringindexes.counters import Counter
from ringindexes.errors import NoHands, NotDecided
from ringindexes.forms import Form
from ringindexes.hands import Hands
from ringindexes.schemes import Scheme
from tests.helpers import NO_INTEGERS, RingCase
from tests.models import MORE_FULLS, N, scheme_of, schemes_of
from tests.step_models import SWITCH_NAMES, SWITCHES, plain_way, switches_told

WORDS = {"writing": ("first", "last"), "reading": ("first", "last"), "looking": ("each", "kept"),
         "telling": ("one", "two")}
NO_WORDS = NO_INTEGERS + [0, 1, "First", "first ", "none", ("first",), ["first"], b"first", Form(1, 0),
                          Counter(8, 3), Scheme.spare()]
KNOWN = {"counters": Scheme.doubled(), "count": Scheme.counted(), "note": Scheme.noted()}


def switches(hands):
    return (hands.writing, hands.reading, hands.looking, hands.telling)


class HandsTest(RingCase):

    def test_ways(self):
        found = {}
        for scheme in schemes_of((N, Form(0, 0), 3), MORE_FULLS):
            way = plain_way(scheme)
            found[way] = True
            if way is None:
                self.assert_error(NotDecided, Hands, scheme)
            else:
                self.assertEqual(Hands(scheme).way, way)
        self.assertEqual(set(found), {"counters", "count", "note", None})

    def test_known_schemes(self):
        for way, scheme in KNOWN.items():
            hands = Hands(scheme)
            self.assertEqual([hands.way, hands.scheme, switches(hands)], [way, scheme, ("first", "first", "each", "one")])
        self.assertEqual(Hands(Scheme.spare()).way, "counters")
        self.assertEqual(Hands(Scheme.masked(100)).way, "counters")
        # The scheme is decided wherever it is right or has a ring at all.
        self.assertEqual(Hands(scheme_of(Form(0, 0), "rest", "count", ("count", ">=", Form(0, -3)))).way, "count")

    def test_schemes_that_do_not_refuse(self):
        for scheme, when in product(KNOWN.values(), ("drop", "over")):
            self.assert_error(NotDecided, Hands, scheme.remade(when=when))
            self.assert_error(NotDecided, Hands, scheme.remade(when=when), writing="none")

    def test_all_switches(self):
        for scheme, values in product(KNOWN.values(), SWITCHES):
            hands = Hands(scheme=scheme, **switches_told(values))
            self.assertEqual(switches(hands), values)

    def test_setters_and_change(self):
        for name, words in WORDS.items():
            for first, then in product(words, words):
                for values in SWITCHES:
                    hands = Hands(Scheme.counted(), **switches_told(values))
                    setattr(hands, name, first)
                    self.assertEqual(getattr(hands, name), first)
                    self.assertIsNone(hands.change(name, then))
                    others = {**switches_told(values), name: then}
                    self.assertEqual(switches(hands), tuple(others.values()))

    def test_remade(self):
        hands = Hands(Scheme.noted(), writing="last", telling="two")
        made = hands.remade(reading="last", telling="one")
        self.assertIs(type(made), Hands)
        self.assertEqual([switches(made), made.scheme, made.way],
                         [("last", "last", "each", "one"), Scheme.noted(), "note"])
        self.assertEqual(switches(hands), ("last", "first", "each", "two"))
        same = hands.remade()
        self.assertEqual(same, hands)
        same.looking = "kept"
        self.assertNotEqual(same, hands)

    def test_equal(self):
        made = [Hands(scheme, **switches_told(values)) for scheme, values in product(KNOWN.values(), SWITCHES)]
        again = [Hands(scheme, **switches_told(values)) for scheme, values in product(KNOWN.values(), SWITCHES)]
        for one, hands in enumerate(made):
            for other, others in enumerate(again):
                self.assertIs(hands == others, one == other)
                self.assertIs(hands != others, one != other)
        for other in NO_WORDS + [Scheme.noted(), "counters"]:
            self.assertIs(Hands(Scheme.noted()) == other, False)
            self.assertIs(Hands(Scheme.noted()) != other, True)

    def test_the_scheme_is_copied(self):
        scheme = Scheme.counted()
        hands = Hands(scheme)
        scheme.when, scheme.empty = "over", "same"
        self.assertEqual([hands.scheme, hands.way], [Scheme.counted(), "count"])
        hands.scheme.when = "drop"
        hands.scheme.change("full", ("note",))
        self.assertEqual(hands.scheme, Scheme.counted())
        self.assertEqual(hands, Hands(Scheme.counted()))
        made = hands.remade(writing="last")
        made.scheme.slot = "off"
        self.assertEqual([made.scheme, hands.writing], [Scheme.counted(), "first"])

    def test_switches_that_are_none(self):
        for name, wrong in product(SWITCH_NAMES, NO_WORDS):
            with self.subTest(name=name, wrong=wrong):
                self.assertEqual(self.assert_error(NoHands, Hands, Scheme.noted(), **{name: wrong}).part, name)
                hands = Hands(Scheme.noted(), writing="last", looking="kept")
                told = switches(hands)
                self.assertEqual(self.assert_error(NoHands, setattr, hands, name, wrong).part, name)
                self.assertEqual(self.assert_error(NoHands, hands.change, name, wrong).part, name)
                self.assertEqual(self.assert_error(NoHands, hands.remade, **{name: wrong}).part, name)
                self.assertEqual(switches(hands), told)

    def test_words_of_other_switches(self):
        for name, other in product(WORDS, WORDS):
            for word in WORDS[other]:
                if word not in WORDS[name]:
                    self.assertEqual(self.assert_error(NoHands, Hands, Scheme.noted(), **{name: word}).part, name)

    def test_the_first_wrong_switch_is_named(self):
        for at, name in enumerate(SWITCH_NAMES):
            wrong = {other: "none" for other in reversed(SWITCH_NAMES[at:])}
            self.assertEqual(self.assert_error(NoHands, Hands, Scheme.noted(), **wrong).part, name)
            self.assertEqual(self.assert_error(NoHands, Hands(Scheme.noted()).remade, **wrong).part, name)
        # What is wrong with the scheme comes first.
        self.assert_error(NotDecided, Hands, Scheme.noted().remade(empty="same"), writing="none")

    def test_names_that_are_none(self):
        hands = Hands(Scheme.noted(), reading="last")
        told = switches(hands)
        for wrong in NO_WORDS + ["part", "scheme", "way", "when", "writing ", "Writing", ("writing",)]:
            for value in ("first", "none"):
                self.assertEqual(self.assert_error(NoHands, hands.change, wrong, value).part, "part")
        for wrong in ("scheme", "way", "when", "part", "writings"):
            self.assertEqual(self.assert_error(NoHands, hands.remade, writing="none", **{wrong: "first"}).part, "part")
        self.assertEqual(switches(hands), told)
