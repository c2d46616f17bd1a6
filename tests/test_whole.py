"""What promise 3 says of heaps: order, bundles, and what is taken back."""

import itertools
import unittest

from deltahouse.asks import once, picked, taken
from deltahouse.heaps import heap_of, laid_together, less, plus, times
from samples import GREAT, check_plain_heap, random_heap, random_pairs, seeds


def bundles_of(source, pairs):
    """The pairs cut at chance places, each piece made a heap."""
    cuts = sorted(source.randint(0, len(pairs)) for turn in range(3))
    edges = [0] + cuts + [len(pairs)]
    return [heap_of(pairs[start:end]) for start, end in zip(edges, edges[1:])]


def summed_up(heaps):
    total = []
    for heap in heaps:
        total = plus(total, heap)
    return total


class OrderAndBundles(unittest.TestCase):
    def test_every_order_ends_alike(self):
        changes = [
            [((1, 1), 1), ((2, 2), -1)], [((1, 1), -1)], [((2, 2), 1), ((3, 3), GREAT)], [], [((3, 3), -GREAT)],
        ]
        for order in itertools.permutations(changes):
            self.assertEqual(summed_up(order), [])
            self.assertEqual(laid_together(list(order)), [])

    def test_other_orders_and_other_bundles_end_alike(self):
        for source in seeds():
            for width in (1, 2, 8):
                pairs = random_pairs(source, width, 12)
                whole = heap_of(pairs)
                for turn in range(4):
                    source.shuffle(pairs)
                    heaps = bundles_of(source, pairs)
                    self.assertEqual(heap_of(pairs), whole)
                    self.assertEqual(summed_up(heaps), whole)
                    self.assertEqual(laid_together(heaps), whole)
                    self.assertEqual(plus(laid_together(heaps[:2]), laid_together(heaps[2:])), whole)


class TakenBack(unittest.TestCase):
    def test_what_is_taken_back_leads_to_just_what_was_before(self):
        for source in seeds():
            for width in (1, 2, 8):
                one, other = random_heap(source, width), random_heap(source, width)
                self.assertEqual(less(plus(one, other), other), one)
                self.assertEqual(plus(less(one, other), other), one)
                self.assertEqual(plus(plus(one, other), times(other, -1)), one)
                self.assertEqual(plus(one, times(one, -1)), [])
                self.assertEqual(times(times(one, -1), -1), one)
                self.assertEqual(less(one, other), times(less(other, one), -1))

    def test_great_weights_are_taken_back(self):
        one = [((1,), 1)]
        other = [((-GREAT,), -GREAT), ((1,), GREAT), ((GREAT,), GREAT)]
        self.assertEqual(less(plus(one, other), other), one)


class QuestionsOfSums(unittest.TestCase):
    def test_picked_and_taken_of_a_sum_are_the_sums_of_picked_and_taken(self):
        for source in seeds():
            one, other = random_heap(source, 2), random_heap(source, 2)
            both = plus(one, other)
            for check in [(0, "is", 1), (1, "below", 1), (1, "above", 0), (0, "same", 1)]:
                self.assertEqual(picked(both, check), plus(picked(one, check), picked(other, check)))
            for places in [(0,), (1,), (1, 0), (0, 0, 1)]:
                self.assertEqual(taken(both, places), plus(taken(one, places), taken(other, places)))

    def test_no_row_is_told_with_a_weight_of_0(self):
        one = [((1, 1), 2), ((1, 2), -2), ((2, 2), 1)]
        for heap in [plus(one, times(one, -1)), less(one, one), times(one, 0), laid_together([one, times(one, -1)]),
                     heap_of(one + times(one, -1) + [((7, 7), 0)]), once(times(one, -1)), picked(one, (0, "is", 1))]:
            check_plain_heap(self, heap, 2)
        check_plain_heap(self, taken(one, (0,)), 1)


if __name__ == "__main__":
    unittest.main()
