"""Rows and heaps: promises 4, 5 and 6, and what 2 says of them."""

import inspect
import unittest

from deltahouse import heaps
from deltahouse.heaps import (
    heap_of, is_heap, is_row, laid_together, less, plus, rows_there, times, weight_of,
)
from samples import (
    GREAT, WIDTHS, Odd, check_plain_heap, heap_from, random_heap, random_pairs, seeds, table_of,
    wrong_things,
)

HEAP = [((1, 2), 3), ((1, 3), -1), ((2, -5), 7)]


class Interface(unittest.TestCase):
    def test_names_and_arguments(self):
        told = {
            "is_row": ["thing", "width"], "is_heap": ["thing", "width"], "heap_of": ["pairs"],
            "weight_of": ["one", "row"], "rows_there": ["one"], "plus": ["one", "other"],
            "less": ["one", "other"], "times": ["one", "number"], "laid_together": ["heaps"],
        }
        for name, arguments in told.items():
            with self.subTest(name=name):
                found = inspect.signature(getattr(heaps, name)).parameters
                self.assertEqual(list(found), arguments)


class IsRow(unittest.TestCase):
    def test_each_width_is_told_alone(self):
        for wide in range(0, 10):
            thing = tuple(range(wide))
            for width in WIDTHS:
                with self.subTest(thing=thing, width=width):
                    self.assertIs(is_row(thing, width), wide == width)

    def test_numbers_of_any_size_and_sign(self):
        for number in [0, -1, 1, GREAT, -GREAT, 10 ** 60]:
            self.assertIs(is_row((number,), 1), True)
            self.assertIs(is_row((0,) * 7 + (number,), 8), True)

    def test_numbers_need_no_order_and_may_be_alike(self):
        self.assertIs(is_row((3, 1, 2), 3), True)
        self.assertIs(is_row((1, 1), 2), True)

    def test_wrong_things_are_no_rows(self):
        for thing in wrong_things() + [[1, 2], HEAP, (HEAP,)]:
            for width in WIDTHS:
                self.assertIs(is_row(thing, width), False, repr(width))

    def test_wrong_numbers_at_each_place(self):
        wrong = [True, False, None, "1", "", 1.0, 2.5, float("nan"), 1j, (1,), [1], {}, b"1", Odd()]
        for number in wrong:
            for width in WIDTHS:
                for place in range(width):
                    thing = (1,) * place + (number,) + (1,) * (width - place - 1)
                    self.assertIs(is_row(thing, width), False)

    def test_no_row_is_wider_than_eight_or_empty(self):
        self.assertIs(is_row((), 0), False)
        self.assertIs(is_row((1,) * 9, 9), False)


class IsHeap(unittest.TestCase):
    def test_empty_list_is_a_heap_of_every_width(self):
        for width in WIDTHS:
            self.assertIs(is_heap([], width), True)

    def test_each_width_is_told_alone(self):
        for wide in range(1, 9):
            thing = [((0,) * wide, 1), ((1,) * wide, -1)]
            for width in WIDTHS:
                self.assertIs(is_heap(thing, width), wide == width)

    def test_weights_of_any_size_and_sign(self):
        for weight in [1, -1, 2, GREAT, -GREAT]:
            self.assertIs(is_heap([((1,), weight)], 1), True)
            self.assertIs(is_heap([((GREAT,) * 8, weight)], 8), True)

    def test_rows_rise_and_stand_once(self):
        self.assertIs(is_heap(HEAP, 2), True)
        self.assertIs(is_heap([((-GREAT,), 1), ((-2,), 1), ((-1,), 1), ((10,), 1)], 1), True)
        self.assertIs(is_heap(HEAP[::-1], 2), False)
        self.assertIs(is_heap([((1, 3), 1), ((1, 2), 1)], 2), False)
        self.assertIs(is_heap([((1, 2), 1), ((1, 3), 1), ((1, 1), 1)], 2), False)
        self.assertIs(is_heap([((1, 2), 1), ((1, 2), 1)], 2), False)
        self.assertIs(is_heap([((1, 2), 1), ((1, 2), -1)], 2), False)

    def test_wrong_things_are_no_heaps(self):
        for thing in wrong_things() + [(((1,), 1),), ((1,), 1), {(1,): 1}]:
            for width in WIDTHS:
                self.assertIs(is_heap(thing, width), False, repr(width))

    def test_wrong_things_within_a_heap(self):
        for thing in wrong_things():
            for place in range(4):
                broken = HEAP[:place] + [thing] + HEAP[place:]
                self.assertIs(is_heap(broken, 2), False, repr(place))

    def test_wrong_weights(self):
        for weight in [0, True, False, None, "1", 1.0, float("nan"), (1,), [1], {}, Odd()]:
            self.assertIs(is_heap([((1,), weight)], 1), False)
            self.assertIs(is_heap([((1,), 1), ((2,), weight)], 1), False)

    def test_wrong_rows(self):
        rows = wrong_things() + [(1,), (1, 2, 3), (1, True), (None, 1), ("1", 2), (1, 1.0), [1, 2], (1, Odd())]
        for row in rows:
            self.assertIs(is_heap([(row, 1)], 2), False)
            self.assertIs(is_heap([((1, 2), 1), (row, 1)], 2), False)
            self.assertIs(is_heap([(row, 1), ((9, 9), 1)], 2), False)

    def test_pairs_that_are_no_tuples_of_two(self):
        for entry in [[(1,), 1], ((1,),), ((1,), 1, 1), (1, 1), ((1,), (1,)), "ab", {0: (1,), 1: 1}, (1, (1,))]:
            self.assertIs(is_heap([entry], 1), False)

    def test_rows_of_two_widths(self):
        for width in WIDTHS:
            self.assertIs(is_heap([((1,), 1), ((1, 2), 1)], width), False)


class HeapOf(unittest.TestCase):
    def test_nothing_makes_the_empty_heap(self):
        self.assertEqual(heap_of([]), [])

    def test_rows_come_rising(self):
        self.assertEqual(heap_of(HEAP[::-1]), HEAP)
        self.assertEqual(heap_of([((10,), 1), ((9,), 1), ((-1,), 1)]), [((-1,), 1), ((9,), 1), ((10,), 1)])
        self.assertEqual(heap_of([((2, 0), 1), ((1, 9), 1), ((1, -9), 1)]),
                         [((1, -9), 1), ((1, 9), 1), ((2, 0), 1)])

    def test_weights_of_a_row_are_summed(self):
        self.assertEqual(heap_of([((1,), 2), ((3,), 1), ((1,), 5)]), [((1,), 7), ((3,), 1)])
        self.assertEqual(heap_of([((1,), 2), ((1,), -5)]), [((1,), -3)])

    def test_weights_that_come_to_nothing(self):
        self.assertEqual(heap_of([((1,), 0)]), [])
        self.assertEqual(heap_of([((1,), 2), ((2,), 1), ((1,), -2)]), [((2,), 1)])
        self.assertEqual(heap_of([((1,), 2), ((1,), -2), ((1,), 0), ((1,), 4)]), [((1,), 4)])

    def test_great_numbers(self):
        self.assertEqual(heap_of([((GREAT,) * 8, GREAT), ((GREAT,) * 8, GREAT), ((-GREAT,) * 8, 1)]),
                         [((-GREAT,) * 8, 1), ((GREAT,) * 8, 2 * GREAT)])
        self.assertEqual(heap_of([((GREAT,), GREAT), ((GREAT - 1,), 1)]), [((GREAT - 1,), 1), ((GREAT,), GREAT)])

    def test_a_thousand_pairs(self):
        pairs = [((number % 10,), 1) for number in range(1000)]
        self.assertEqual(heap_of(pairs), [((number,), 100) for number in range(10)])

    def test_against_another_reckoning(self):
        for source in seeds():
            for width in WIDTHS:
                pairs = random_pairs(source, width, source.randint(0, 12))
                told = heap_of(pairs)
                self.assertEqual(told, heap_from(table_of(pairs)))
                check_plain_heap(self, told, width)
                self.assertIs(is_heap(told, width), True)


class WeightsAndRows(unittest.TestCase):
    def test_weight_of_each_row(self):
        for row, weight in HEAP:
            self.assertEqual(weight_of(HEAP, row), weight)

    def test_a_row_that_does_not_stand_there_has_weight_0(self):
        for row in [(0, 0), (1, 4), (9, 9), (-1, -1)]:
            told = weight_of(HEAP, row)
            self.assertEqual(told, 0)
            self.assertIs(type(told), int)
        self.assertEqual(weight_of([], (1,)), 0)

    def test_great_weight(self):
        self.assertEqual(weight_of([((1,), 2), ((GREAT,), -GREAT)], (GREAT,)), -GREAT)

    def test_rows_there_have_a_weight_above_0(self):
        self.assertEqual(rows_there(HEAP), [(1, 2), (2, -5)])
        self.assertEqual(rows_there([]), [])
        self.assertEqual(rows_there([((1,), -1)]), [])
        self.assertEqual(rows_there([((-GREAT,), 1), ((0,), -GREAT), ((1,), GREAT)]), [(-GREAT,), (1,)])


class Sums(unittest.TestCase):
    def test_plus_row_by_row(self):
        self.assertEqual(plus(HEAP, [((0, 0), 1), ((1, 2), 1), ((2, -5), -7)]),
                         [((0, 0), 1), ((1, 2), 4), ((1, 3), -1)])
        self.assertEqual(plus(HEAP, []), HEAP)
        self.assertEqual(plus([], HEAP), HEAP)
        self.assertEqual(plus([], []), [])

    def test_less_row_by_row(self):
        self.assertEqual(less(HEAP, [((0, 0), 1), ((1, 2), 1), ((2, -5), 7)]),
                         [((0, 0), -1), ((1, 2), 2), ((1, 3), -1)])
        self.assertEqual(less(HEAP, []), HEAP)
        self.assertEqual(less([], HEAP), [((1, 2), -3), ((1, 3), 1), ((2, -5), -7)])
        self.assertEqual(less(HEAP, HEAP), [])

    def test_times(self):
        self.assertEqual(times(HEAP, 0), [])
        self.assertEqual(times(HEAP, 1), HEAP)
        self.assertEqual(times(HEAP, -1), [((1, 2), -3), ((1, 3), 1), ((2, -5), -7)])
        self.assertEqual(times(HEAP, 3), [((1, 2), 9), ((1, 3), -3), ((2, -5), 21)])
        self.assertEqual(times(HEAP, -2), [((1, 2), -6), ((1, 3), 2), ((2, -5), -14)])
        for number in [0, 1, -1, GREAT]:
            self.assertEqual(times([], number), [])

    def test_laid_together(self):
        self.assertEqual(laid_together([]), [])
        self.assertEqual(laid_together([[]]), [])
        self.assertEqual(laid_together([[], [], []]), [])
        self.assertEqual(laid_together([HEAP]), HEAP)
        self.assertEqual(laid_together([HEAP, [], HEAP, [((0, 0), 2)]]),
                         [((0, 0), 2), ((1, 2), 6), ((1, 3), -2), ((2, -5), 14)])
        self.assertEqual(laid_together([HEAP, HEAP, times(HEAP, -2)]), [])

    def test_numbers_told_have_as_many_figures_as_they_need(self):
        one = [((GREAT, -GREAT), GREAT)]
        self.assertEqual(plus(one, one), [((GREAT, -GREAT), 2 * GREAT)])
        self.assertEqual(less(times(one, -1), one), [((GREAT, -GREAT), -2 * GREAT)])
        self.assertEqual(times(one, GREAT), [((GREAT, -GREAT), GREAT * GREAT)])
        self.assertEqual(times(one, -GREAT), [((GREAT, -GREAT), -GREAT * GREAT)])
        self.assertEqual(laid_together([one] * 1000), [((GREAT, -GREAT), 1000 * GREAT)])

    def test_against_another_reckoning(self):
        for source in seeds():
            for width in (1, 2, 3, 8):
                one = random_heap(source, width)
                other = random_heap(source, width)
                number = source.randint(-3, 3)
                turned = [(row, -weight) for row, weight in other]
                told = {
                    "plus": (plus(one, other), one + other),
                    "less": (less(one, other), one + turned),
                    "times": (times(one, number), [(row, weight * number) for row, weight in one]),
                    "laid": (laid_together([one, other, one]), one + other + one),
                }
                for name, (heap, pairs) in told.items():
                    with self.subTest(name=name, one=one, other=other, number=number):
                        self.assertEqual(heap, heap_from(table_of(pairs)))
                        check_plain_heap(self, heap, width)


class AskersOwn(unittest.TestCase):
    def tell(self, one, other):
        return [
            heap_of(one), rows_there(one), plus(one, other), plus(one, []), plus([], one), less(one, other),
            less(one, []), times(one, 1), times(one, -1), times(one, 0), laid_together([one]),
            laid_together([one, other]), laid_together([[], one]), laid_together([]), heap_of([]),
        ]

    def test_nothing_handed_in_is_changed(self):
        one, other = list(HEAP), [((1, 2), -3), ((5, 5), 1)]
        both = [one, other]
        self.tell(one, other)
        laid_together(both)
        weight_of(one, (1, 2))
        is_heap(one, 2)
        self.assertEqual(one, HEAP)
        self.assertEqual(other, [((1, 2), -3), ((5, 5), 1)])
        self.assertEqual(len(both), 2)
        self.assertIs(both[0], one)
        self.assertIs(both[1], other)

    def test_pairs_out_of_order_stay_as_they_were(self):
        pairs = [((2,), 1), ((1,), 0), ((2,), -1), ((0,), 5)]
        kept = list(pairs)
        heap_of(pairs)
        self.assertEqual(pairs, kept)
        is_heap(pairs, 1)
        self.assertEqual(pairs, kept)

    def test_what_was_told_stays_when_what_was_handed_in_is_changed(self):
        one, other = list(HEAP), [((1, 2), -3), ((5, 5), 1)]
        told = self.tell(one, other)
        kept = [list(heap) for heap in told]
        one.clear()
        other.append(((9, 9), 9))
        self.assertEqual(told, kept)

    def test_what_was_told_stays_when_another_told_list_is_changed(self):
        one, other = list(HEAP), [((1, 2), -3), ((5, 5), 1)]
        told = self.tell(one, other)
        kept = [list(heap) for heap in told]
        for turn in range(len(told)):
            told[turn].append("changed")
            self.assertEqual(told[turn + 1:], kept[turn + 1:])
        self.assertEqual(one, HEAP)
        self.assertEqual(other, [((1, 2), -3), ((5, 5), 1)])
        self.assertEqual(self.tell(one, other), kept)


if __name__ == "__main__":
    unittest.main()
