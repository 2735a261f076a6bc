"""The examples of the document."""

from ringindexes.bench import Bench
from ringindexes.blocks import BlockRing, block_break, block_parts
from ringindexes.changes import Menu, least_sets, reason_of
from ringindexes.checker import check_paper
from ringindexes.console import Console
from ringindexes.counters import Counter
from ringindexes.errors import NoScheme
from ringindexes.forms import Form, show_form
from ringindexes.handcheck import hands_verdict, shortest_break
from ringindexes.hands import Hands
from ringindexes.late import belief_of
from ringindexes.papers import paper_of
from ringindexes.queues import Watch
from ringindexes.runs import Run, show_run
from ringindexes.schemes import Scheme, show_scheme
from ringindexes.several import fan_verdict, putters_verdict
from ringindexes.sizes import sizes_of, widths_of
from ringindexes.slots import gap_of, modulus_of, slot_of
from ringindexes.tracks import Track
from ringindexes.verdicts import verdict_of
from ringindexes.windows import alike_of, window_of
from tests.helpers import RingCase

SMALL = "M = 2**3; slot rest; empty same; full diff = N; when refuse"


class ExamplesTest(RingCase):

    def test_forms(self):
        form = 2 * Form(1, 0) - 3
        self.assertEqual([show_form(form), (form + Form(1, 1))(10), form < Form(2, 0), form.slope],
                         ["2*N - 3", 28, True, 2])

    def test_counters(self):
        counter, other = Counter(8, 6), Counter(8, 1)
        self.assertEqual([(counter + 4).value, other - counter, counter % 4, counter & 3], [2, 3, 2, 2])

    def test_schemes(self):
        self.assertEqual(show_scheme(Scheme.doubled()), "M = 2*N; slot off; empty same; full diff = N; when refuse")

    def test_a_text_that_is_none(self):
        self.assertEqual(self.assert_error(NoScheme, Scheme.read, "M = N").part, "text")

    def test_slots(self):
        scheme = Scheme.read(SMALL)
        self.assertEqual([modulus_of(scheme, 3), slot_of(scheme, 3, 7), gap_of(scheme, 3, 6)], [8, 1, 2])

    def test_windows(self):
        scheme = Scheme.read(SMALL)
        self.assertEqual([window_of(scheme, 3), alike_of(scheme, 3)], [2, (6, 2)])

    def test_verdicts(self):
        verdict = verdict_of(Scheme.read(SMALL), 3)
        self.assertEqual([bool(verdict), verdict.cause, verdict.room, verdict.window, show_run(verdict.run)],
                         [False, "slot", 3, 2, "6 pair; 3 put; 1 take"])

    def test_tracks(self):
        track = Track(Scheme.read(SMALL), 3)
        self.assertEqual(track.play(Run.read("6 pair; 3 put; 1 take")), ("wrong", 16, 7, 9))

    def test_a_verdict_at_a_great_size(self):
        scheme = Scheme.doubled().remade(wrap=Form(3, 0))
        run = verdict_of(scheme, 10 ** 30).run
        self.assertEqual([show_run(run), Track(scheme, 10 ** 30).play(run)],
                         ["2000000000000000000000000000000 pair; 1 put",
                          ("outside", 4000000000000000000000000000001, None, None)])

    def test_the_run_of_a_verdict_done_by_a_watch(self):
        scheme = Scheme.read(SMALL)
        run = Run.read("6 pair; 3 put; 1 take")
        watch = Watch(scheme, 3)
        for times, word in run.pieces:
            for _ in range(times):
                for deed in {"put": [watch.put], "take": [watch.take], "pair": [watch.put, watch.take]}[word]:
                    deed()
        self.assertEqual([show_run(run), run.all_deeds()], ["6 pair; 3 put; 1 take", 16])
        self.assertEqual(watch.broken, ("wrong", 16, 7, 9))

    def test_an_outside_slot_at_a_smaller_size(self):
        watch = Watch(Scheme.doubled().remade(wrap=Form(3, 0)), 4)
        for _ in range(8):
            watch.put()
            watch.take()
        watch.put()
        self.assertEqual(watch.broken, ("outside", 17, None, None))

    def test_the_run_of_the_console(self):
        scheme = Scheme.read("M = N; slot rest; empty note; full note; when refuse")
        track = Track(scheme, 7)
        self.assertIsNone(track.play(Run.read("9 put; 2 take")))
        verdict = verdict_of(scheme, 7)
        self.assertEqual([track.held, verdict.cause, verdict.room], [5, "right", 7])

    def test_sizes(self):
        sizes = sizes_of(Scheme.masked(4))
        self.assertEqual([sizes.early, sizes.start, sizes.period, sizes.rests, 8 in sizes, 16 in sizes],
                         [[1, 2, 4, 8], 9, 1, [], True, False])

    def test_widths(self):
        widths = widths_of(Scheme.read("M = 2**1; slot rest; empty count; full count = 2; when refuse"), 3)
        self.assertEqual([widths.early, widths.start, widths.period, widths.rests, 101 in widths],
                         [[], 1, 2, [1], True])

    def test_the_sizes_of_the_console(self):
        sizes = sizes_of(Scheme.read("M = N; slot rest; empty note; full note; when refuse"))
        self.assertEqual([sizes.early, sizes.start, sizes.rests, sizes.period], [[], 1, [0], 1])

    def test_blocks(self):
        self.assertEqual(block_parts(Scheme.doubled(), 5, 8, 4), [(3, 2), (0, 2)])
        ring = BlockRing.started(Scheme.doubled(), 4, 7)
        self.assertEqual([ring.put_block(1, 2, 3), ring.take_block(2), ring.held, ring.both_at,
                          ring.put_block(4, 5, 6, 7)], [True, (1, 2), 1, (2, 1), False])
        scheme = Scheme.read("M = N + 3; slot rest; empty same; full diff = 2; when refuse")
        self.assertEqual(block_break(scheme, 5), (7, (("put", 2), ("take", 1), ("take", 1))))

    def test_late_takers(self):
        scheme = Scheme.read("M = 2*N; slot rest; empty same; full next; when over")
        belief = belief_of(scheme, 4, 13)
        self.assertEqual([belief.believed, belief.lost, belief.number_right, belief.place_right, bool(belief)],
                         [5, 1, False, True, False])

    def test_benches(self):
        bench = Bench(Hands(Scheme.doubled()), 2)
        self.assertEqual([bench.step("p"), bench.step("t"), bench.step("p"), bench.step("p"), bench.levels,
                          bench.steps], ["look", "look", "write", "tell", (0, 1, 1), 4])

    def test_verdicts_on_hands(self):
        self.assertEqual([hands_verdict(Hands(Scheme.doubled(), reading="last"), 2).cause,
                          hands_verdict(Hands(Scheme.spare(), reading="last"), 3).cause,
                          shortest_break(Hands(Scheme.doubled(), writing="last"), 2)], ["read", "right", "pptt"])

    def test_several_hands(self):
        self.assertEqual([putters_verdict(Scheme.doubled(), 4, 2).cause,
                          putters_verdict(Scheme.doubled(), 4, 2, tell="any").cause,
                          fan_verdict(Scheme.doubled(), 4, 2, full="low").cause], ["right", "tell", "low"])

    def test_papers(self):
        paper = paper_of(Scheme.doubled(), 3)
        self.assertEqual([paper, check_paper(paper), check_paper(paper[:3] + (1, 3))],
                         [("right", "M = 2*N; slot off; empty same; full diff = N; when refuse", 3, 2, 0), True, False])

    def test_menus(self):
        menu = Menu(Scheme.read(SMALL), ("full", ("diff", "=", Form(0, 2))), ("wrap", Form(2, 0)), ("slot", "mask"))
        self.assertEqual([least_sets(menu, 3), reason_of(menu, [2], 3)[0]], [[[0], [1]], "slot"])

    def test_the_console(self):
        console = Console()
        console.say("keep a M = N; slot rest; empty note; full note; when refuse")
        self.assertEqual([console.say("verdict a 7"), console.say("sizes a"), console.say("track a 7 9 put; 2 take"),
                          console.say("names")], ["right 7", "-; from 1: 0 of 1", "held 5", "a"])
