"""The examples of the document."""

from ringindexes.counters import Counter
from ringindexes.errors import NoScheme
from ringindexes.forms import Form, show_form
from ringindexes.schemes import Scheme, show_scheme
from tests.helpers import RingCase


class ExamplesTest(RingCase):

    def test_forms(self):
        form = 2 * Form(1, 0) - 3
        self.assertEqual([show_form(form), (form + Form(1, 1))(10), form < Form(2, 0), form.slope],
                         ["2*N - 3", 28, True, 2])

    def test_counters(self):
        counter, other = Counter(8, 6), Counter(8, 1)
        self.assertEqual([(counter + 4).value, other - counter, counter % 4, counter & 3], [2, 3, 2, 2])

    def test_schemes(self):
        self.assertEqual(show_scheme(Scheme.doubled()), "M = 2*N; slot off; empty same; full diff = N; when refuse")

    def test_a_text_that_is_none(self):
        self.assertEqual(self.assert_error(NoScheme, Scheme.read, "M = N").part, "text")
