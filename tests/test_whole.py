"""What promise 3 says of heaps and of houses: order, bundles, what is taken back, and all ways to one answer."""

import itertools
import unittest

import booked
from deltahouse.asks import once, picked, taken
from deltahouse.books import read_book
from deltahouse.desk import Desk
from deltahouse.errors import TooMuch
from deltahouse.heaps import heap_of, laid_together, less, plus, times
from deltahouse.live import Live
from deltahouse.moments import Moments
from deltahouse.plain import answers
from deltahouse.texts import show_heap
from housed import names_in, random_bundle, read_changes, shown, told_by_name, told_or_refusal
from samples import GREAT, check_plain_heap, random_heap, random_pairs, seeds


def bundles_of(source, pairs):
    """The pairs cut at chance places, each piece made a heap."""
    cuts = sorted(source.randint(0, len(pairs)) for turn in range(3))
    edges = [0] + cuts + [len(pairs)]
    return [heap_of(pairs[start:end]) for start, end in zip(edges, edges[1:])]


def summed_up(heaps):
    total = []
    for heap in heaps:
        total = plus(total, heap)
    return total


class OrderAndBundles(unittest.TestCase):
    def test_every_order_ends_alike(self):
        changes = [
            [((1, 1), 1), ((2, 2), -1)], [((1, 1), -1)], [((2, 2), 1), ((3, 3), GREAT)], [], [((3, 3), -GREAT)],
        ]
        for order in itertools.permutations(changes):
            self.assertEqual(summed_up(order), [])
            self.assertEqual(laid_together(list(order)), [])

    def test_other_orders_and_other_bundles_end_alike(self):
        for source in seeds():
            for width in (1, 2, 8):
                pairs = random_pairs(source, width, 12)
                whole = heap_of(pairs)
                for turn in range(4):
                    source.shuffle(pairs)
                    heaps = bundles_of(source, pairs)
                    self.assertEqual(heap_of(pairs), whole)
                    self.assertEqual(summed_up(heaps), whole)
                    self.assertEqual(laid_together(heaps), whole)
                    self.assertEqual(plus(laid_together(heaps[:2]), laid_together(heaps[2:])), whole)


class TakenBack(unittest.TestCase):
    def test_what_is_taken_back_leads_to_just_what_was_before(self):
        for source in seeds():
            for width in (1, 2, 8):
                one, other = random_heap(source, width), random_heap(source, width)
                self.assertEqual(less(plus(one, other), other), one)
                self.assertEqual(plus(less(one, other), other), one)
                self.assertEqual(plus(plus(one, other), times(other, -1)), one)
                self.assertEqual(plus(one, times(one, -1)), [])
                self.assertEqual(times(times(one, -1), -1), one)
                self.assertEqual(less(one, other), times(less(other, one), -1))

    def test_great_weights_are_taken_back(self):
        one = [((1,), 1)]
        other = [((-GREAT,), -GREAT), ((1,), GREAT), ((GREAT,), GREAT)]
        self.assertEqual(less(plus(one, other), other), one)


class QuestionsOfSums(unittest.TestCase):
    def test_picked_and_taken_of_a_sum_are_the_sums_of_picked_and_taken(self):
        for source in seeds():
            one, other = random_heap(source, 2), random_heap(source, 2)
            both = plus(one, other)
            for check in [(0, "is", 1), (1, "below", 1), (1, "above", 0), (0, "same", 1)]:
                self.assertEqual(picked(both, check), plus(picked(one, check), picked(other, check)))
            for places in [(0,), (1,), (1, 0), (0, 0, 1)]:
                self.assertEqual(taken(both, places), plus(taken(one, places), taken(other, places)))

    def test_no_row_is_told_with_a_weight_of_0(self):
        one = [((1, 1), 2), ((1, 2), -2), ((2, 2), 1)]
        for heap in [plus(one, times(one, -1)), less(one, one), times(one, 0), laid_together([one, times(one, -1)]),
                     heap_of(one + times(one, -1) + [((7, 7), 0)]), once(times(one, -1)), picked(one, (0, "is", 1))]:
            check_plain_heap(self, heap, 2)
        check_plain_heap(self, taken(one, (0,)), 1)


class AllWaysToOneAnswer(unittest.TestCase):
    def runs(self):
        for source in seeds(80):
            text = booked.random_book(source, 14)
            bundles = [(source.randint(0, 5), random_bundle(source, read_book(text), 4)) for turn in range(6)]
            yield text, [(moment, changes) for moment, changes in bundles if changes]

    def test_live_by_moments_at_the_desk_and_asked_anew(self):
        for text, bundles in self.runs():
            book = read_book(text)
            live, house, desk, told, anew = Live(book), Moments(book), Desk(text), [], []
            for moment, changes in bundles:
                step = told_or_refusal(house.take_in, moment, changes)
                written = "; ".join(f"{name} {show_heap(heap)}" for name, heap in changes)
                said = told_or_refusal(desk.say, f"in {moment} {written}")
                if step is TooMuch:
                    self.assertIs(said, TooMuch)
                    continue
                self.assertEqual(said, "\n".join(" ".join(map(str, part)) for part in shown(step)) or "nothing")
                told += step
                anew += changes
                # Its tables are those of the last moment, which the other house has looked at: it refuses none.
                live.take_in(changes)
            for name, heap in answers(book, anew):
                self.assertEqual(live.answer(name), heap)
                self.assertEqual(house.answer(5, name), heap)
                self.assertEqual(desk.say(f"ask 5 {name}"), show_heap(heap))
                self.assertEqual(told_by_name(told, name), heap)

    def test_a_row_of_a_ring_goes_with_its_last_ground_not_before(self):
        live = Live(read_book("table s 1\ntable d 2\nring r 1\nrule r s 0\nrule r r d 0=0 2"))
        for pairs, told in [
            ([("s", "1*1"), ("d", "1,2*1 2,3*1 3,2*1")],
             [("s", "1*1"), ("d", "1,2*1 2,3*1 3,2*1"), ("r", "1*1 2*1 3*1")]),
            ([("s", "3*1")], [("s", "3*1")]),
            ([("d", "1,2*-1")], [("d", "1,2*-1")]),
            ([("s", "3*-1")], [("s", "3*-1"), ("r", "2*-1 3*-1")]),
            ([("d", "1,3*2")], [("d", "1,3*2"), ("r", "2*1 3*1")]),
            ([("d", "1,3*-1")], [("d", "1,3*-1")]),
            ([("d", "1,3*-1")], [("d", "1,3*-1"), ("r", "2*-1 3*-1")]),
        ]:
            self.assertEqual(shown(live.take_in(read_changes(*pairs))), told)

    def test_the_same_is_told_and_kept_whatever_else_was_asked_between(self):
        for text, bundles in self.runs():
            book = read_book(text)
            asked, quiet = Moments(book), Moments(book)
            for moment, changes in bundles:
                for name in names_in(book):
                    asked.answer(moment, name)
                self.assertEqual(told_or_refusal(asked.take_in, moment, changes),
                                 told_or_refusal(quiet.take_in, moment, changes))


if __name__ == "__main__":
    unittest.main()
