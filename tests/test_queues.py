"""Queues: point 15."""

from ringindexes.queues import Queue
from tests.helpers import RingCase


class QueueTest(RingCase):

    def test_a_new_queue(self):
        queue = Queue()
        self.assert_integer(len(queue), 0)
        self.assertIs(bool(queue), False)
        self.assertEqual([queue.oldest(), queue.take(), queue.take()], [None, None, None])
        self.assertIs(1 in queue, False)
        self.assertEqual(len(queue), 0)

    def test_beside_a_list(self):
        for deeds in ("ppptttt", "pptppttptpppttttttp", "tptpptpptppptppptttttttttpp", "p" * 50 + "t" * 60 + "pt"):
            queue, plain = Queue(), []
            for value, deed in enumerate(deeds):
                if deed == "p":
                    self.assertIsNone(queue.put(value * 3))
                    plain.append(value * 3)
                else:
                    self.assertEqual(queue.take(), plain.pop(0) if plain else None)
                self.assert_integer(len(queue), len(plain))
                self.assertIs(bool(queue), len(plain) > 0)
                self.assertEqual(queue.oldest(), plain[0] if plain else None)
                self.assertEqual([k for k in range(-1, 400) if k in queue], sorted(plain))

    def test_oldest_takes_nothing(self):
        queue = Queue()
        queue.put(value=4)
        queue.put(5)
        self.assertEqual([queue.oldest(), queue.oldest(), len(queue)], [4, 4, 2])
        self.assertEqual([queue.take(), queue.oldest(), queue.take(), queue.oldest()], [4, 5, 5, None])

    def test_equal_values_are_kept_one_by_one(self):
        queue = Queue()
        for value in (7, 7, 0, 7):
            queue.put(value)
        self.assertEqual(len(queue), 4)
        self.assertEqual([queue.take() for _ in range(4)], [7, 7, 0, 7])

    def test_a_queue_that_holds_zero_holds_something(self):
        queue = Queue()
        queue.put(0)
        self.assertIs(bool(queue), True)
        self.assertIs(0 in queue, True)
        self.assertEqual([queue.oldest(), queue.take()], [0, 0])
        self.assertIs(bool(queue), False)

    def test_queues_do_not_share(self):
        one, other = Queue(), Queue()
        one.put(1)
        self.assertEqual([len(one), len(other)], [1, 0])
