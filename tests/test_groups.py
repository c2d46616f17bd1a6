"""Groups: promise 10, and what 2 and 5 say of them."""

import inspect
import unittest

import reckoned
from deltahouse import groups
from deltahouse.groups import counted, least, most, summed
from samples import GREAT, check_plain_heap, random_heap, seeds

HEAP = [((1, 5), 2), ((1, 6), -3), ((2, -4), 1), ((2, 7), 1), ((3, 9), -1)]


def tell_all(one, place, keys):
    return {
        "count": counted(one, keys), "sum": summed(one, place, keys),
        "least": least(one, place, keys), "most": most(one, place, keys),
    }


class Interface(unittest.TestCase):
    def test_names_and_arguments(self):
        told = {
            "counted": ["one", "keys"], "summed": ["one", "place", "keys"],
            "least": ["one", "place", "keys"], "most": ["one", "place", "keys"],
        }
        for name, arguments in told.items():
            with self.subTest(name=name):
                found = inspect.signature(getattr(groups, name)).parameters
                self.assertEqual(list(found), arguments)


class Numbers(unittest.TestCase):
    def test_counted_is_the_sum_of_weights(self):
        self.assertEqual(counted(HEAP, (0,)), [((1, -1), 1), ((2, 2), 1), ((3, -1), 1)])

    def test_summed_is_weight_times_number(self):
        self.assertEqual(summed(HEAP, 1, (0,)), [((1, -8), 1), ((2, 3), 1), ((3, -9), 1)])
        self.assertEqual(summed(HEAP, 0, (0,)), [((1, -1), 1), ((2, 4), 1), ((3, -3), 1)])

    def test_least_and_most_ask_only_rows_that_are_there(self):
        self.assertEqual(least(HEAP, 1, (0,)), [((1, 5), 1), ((2, -4), 1)])
        self.assertEqual(most(HEAP, 1, (0,)), [((1, 5), 1), ((2, 7), 1)])
        heap = [((1, 1), -9), ((1, 2), 1), ((1, 3), 4), ((1, 4), -9)]
        self.assertEqual(least(heap, 1, (0,)), [((1, 2), 1)])
        self.assertEqual(most(heap, 1, (0,)), [((1, 3), 1)])

    def test_the_documents_own_group(self):
        self.assertEqual(counted([((1, 5), 1), ((1, 6), -1)], (0,)), [((1, 0), 1)])

    def test_a_number_of_0_is_told_by_counted_and_summed(self):
        self.assertEqual(counted([((1, 5), 3), ((1, 6), -3), ((2, 1), 1)], (0,)), [((1, 0), 1), ((2, 1), 1)])
        self.assertEqual(summed([((1, 2), 3), ((1, 3), -2), ((2, 1), 1)], 1, (0,)), [((1, 0), 1), ((2, 1), 1)])
        self.assertEqual(summed([((0, 0), 7)], 1, (0,)), [((0, 0), 1)])
        self.assertEqual(counted([((1,), 1), ((2,), -1)], ()), [((0,), 1)])
        self.assertEqual(least([((4, 0), 1), ((4, 1), 1)], 1, (0,)), [((4, 0), 1)])
        self.assertEqual(most([((4, -1), 1), ((4, 0), 1)], 1, (0,)), [((4, 0), 1)])

    def test_a_group_with_no_row_that_is_there(self):
        heap = [((1, 5), -1), ((1, 6), -GREAT)]
        self.assertEqual(least(heap, 1, (0,)), [])
        self.assertEqual(most(heap, 1, (0,)), [])
        self.assertEqual(least(heap, 1, ()), [])
        self.assertEqual(counted(heap[:1], (0,)), [((1, -1), 1)])
        self.assertEqual(summed(heap[:1], 1, (0,)), [((1, -5), 1)])

    def test_great_numbers(self):
        heap = [((-GREAT, 1), GREAT), ((GREAT, 1), GREAT)]
        self.assertEqual(counted(heap, (1,)), [((1, 2 * GREAT), 1)])
        self.assertEqual(summed(heap, 0, (1,)), [((1, 0), 1)])
        self.assertEqual(summed(heap, 0, (0,)), [((-GREAT, -GREAT * GREAT), 1), ((GREAT, GREAT * GREAT), 1)])
        self.assertEqual(least(heap, 0, (1,)), [((1, -GREAT), 1)])
        self.assertEqual(most(heap, 0, (1,)), [((1, GREAT), 1)])


class Keys(unittest.TestCase):
    def test_by_no_keys_all_rows_are_one_group(self):
        self.assertEqual(tell_all(HEAP, 1, ()), {
            "count": [((0,), 1)], "sum": [((-14,), 1)], "least": [((-4,), 1)], "most": [((7,), 1)],
        })

    def test_the_empty_heap_has_no_group(self):
        for keys in [(), (0,), (7,) * 7, (GREAT, 99)]:
            for place in [0, 7, 99]:
                for word, told in tell_all([], place, keys).items():
                    self.assertEqual(told, [], word)

    def test_keys_alike(self):
        self.assertEqual(counted(HEAP, (0, 0)), [((1, 1, -1), 1), ((2, 2, 2), 1), ((3, 3, -1), 1)])
        self.assertEqual(summed([((3,), 2)], 0, (0,) * 7), [((3,) * 7 + (6,), 1)])

    def test_keys_in_their_own_order(self):
        heap = [((1, 9, 4), 1), ((2, 8, 4), 1)]
        self.assertEqual(counted(heap, (2, 1)), [((4, 8, 1), 1), ((4, 9, 1), 1)])
        self.assertEqual(least(heap, 0, (1, 2)), [((8, 4, 2), 1), ((9, 4, 1), 1)])
        self.assertEqual(most(heap, 0, (2,)), [((4, 2), 1)])

    def test_seven_keys(self):
        heap = [((1, 2, 3, 4, 5, 6, 7, 8), 2), ((1, 2, 3, 4, 5, 6, 7, 9), 3), ((1, 2, 3, 4, 5, 6, 8, 1), -1)]
        keys = (0, 1, 2, 3, 4, 5, 6)
        self.assertEqual(tell_all(heap, 7, keys), {
            "count": [((1, 2, 3, 4, 5, 6, 7, 5), 1), ((1, 2, 3, 4, 5, 6, 8, -1), 1)],
            "sum": [((1, 2, 3, 4, 5, 6, 7, 43), 1), ((1, 2, 3, 4, 5, 6, 8, -1), 1)],
            "least": [((1, 2, 3, 4, 5, 6, 7, 8), 1)],
            "most": [((1, 2, 3, 4, 5, 6, 7, 9), 1)],
        })

    def test_the_place_may_be_a_key(self):
        self.assertEqual(tell_all([((5, 1), 2), ((5, 2), 1)], 0, (0,)), {
            "count": [((5, 3), 1)], "sum": [((5, 15), 1)], "least": [((5, 5), 1)], "most": [((5, 5), 1)],
        })


class AnotherReckoning(unittest.TestCase):
    def test_all_words(self):
        for source in seeds():
            for width in (1, 2, 3, 8):
                heap = random_heap(source, width)
                place = source.randrange(width)
                keys = tuple(source.randrange(width) for turn in range(source.randint(0, 7)))
                for word, told in tell_all(heap, place, keys).items():
                    with self.subTest(word=word, heap=heap, place=place, keys=keys):
                        self.assertEqual(told, reckoned.grouped(word, heap, place, keys))
                        check_plain_heap(self, told, len(keys) + 1)
                        self.assertEqual({weight for row, weight in told} - {1}, set())


class AskersOwn(unittest.TestCase):
    def tell(self, one):
        told = []
        for keys in [(), (0,), (1, 0)]:
            told.extend(tell_all(one, 1, keys).values())
        return told

    def test_nothing_handed_in_is_changed(self):
        one = list(HEAP)
        self.tell(one)
        self.assertEqual(one, HEAP)

    def test_what_was_told_stays_when_what_was_handed_in_is_changed(self):
        one = list(HEAP)
        told = self.tell(one)
        kept = [list(heap) for heap in told]
        one.clear()
        self.assertEqual(told, kept)

    def test_what_was_told_stays_when_another_told_list_is_changed(self):
        one = list(HEAP)
        told = self.tell(one)
        kept = [list(heap) for heap in told]
        for turn in range(len(told)):
            told[turn].append("changed")
            self.assertEqual(told[turn + 1:], kept[turn + 1:])
        self.assertEqual(one, HEAP)
        self.assertEqual(self.tell(one), kept)
        for heap in tell_all([], 0, ()).values():
            heap.append("changed")
        self.assertEqual(list(tell_all([], 0, ()).values()), [[], [], [], []])


if __name__ == "__main__":
    unittest.main()
