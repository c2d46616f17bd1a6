"""Questions of one heap: promises 7 and 8, and what 2 says of them."""

import inspect
import unittest

from deltahouse import asks
from deltahouse.asks import once, passes, picked, taken
from samples import GREAT, check_plain_heap, heap_from, random_heap, seeds, table_of

HEAP = [((1, 2, 1), 3), ((1, 3, 3), -1), ((2, -5, 2), 7), ((4, 4, 4), -2)]


class Interface(unittest.TestCase):
    def test_names_and_arguments(self):
        told = {
            "passes": ["row", "check"], "picked": ["one", "check"], "taken": ["one", "places"], "once": ["one"],
        }
        for name, arguments in told.items():
            with self.subTest(name=name):
                found = inspect.signature(getattr(asks, name)).parameters
                self.assertEqual(list(found), arguments)


class Passes(unittest.TestCase):
    def test_each_word_below_at_and_above_the_number(self):
        told = {"is": [False, True, False], "below": [True, False, False], "above": [False, False, True]}
        for middle in [0, 5, -5, GREAT, -GREAT]:
            for word, answers in told.items():
                for number, answer in zip([middle - 1, middle, middle + 1], answers):
                    with self.subTest(word=word, number=number, middle=middle):
                        self.assertIs(passes((number,), (0, word, middle)), answer)

    def test_the_place_is_looked_at(self):
        row = (1, 2, 3, 4, 5, 6, 7, 8)
        for place in range(8):
            for number in range(10):
                self.assertIs(passes(row, (place, "is", number)), row[place] == number)
                self.assertIs(passes(row, (place, "below", number)), row[place] < number)
                self.assertIs(passes(row, (place, "above", number)), row[place] > number)

    def test_same_asks_the_row_itself(self):
        row = (5, 7, 5, 2)
        for place in range(4):
            for number in range(4):
                self.assertIs(passes(row, (place, "same", number)), row[place] == row[number])
        self.assertIs(passes((0, 9), (0, "same", 1)), False)
        self.assertIs(passes((1, 9), (0, "same", 1)), False)
        self.assertIs(passes((9, 9), (0, "same", 1)), True)
        self.assertIs(passes((GREAT,) * 8, (7, "same", 0)), True)
        self.assertIs(passes((3,), (0, "same", 0)), True)


class Picked(unittest.TestCase):
    def test_rows_that_pass_keep_their_weights(self):
        self.assertEqual(picked(HEAP, (0, "is", 1)), [((1, 2, 1), 3), ((1, 3, 3), -1)])
        self.assertEqual(picked(HEAP, (1, "below", 3)), [((1, 2, 1), 3), ((2, -5, 2), 7)])
        self.assertEqual(picked(HEAP, (1, "above", 2)), [((1, 3, 3), -1), ((4, 4, 4), -2)])
        self.assertEqual(picked(HEAP, (0, "same", 2)), [((1, 2, 1), 3), ((2, -5, 2), 7), ((4, 4, 4), -2)])

    def test_none_and_all(self):
        self.assertEqual(picked(HEAP, (0, "is", 9)), [])
        self.assertEqual(picked(HEAP, (0, "above", -9)), HEAP)
        self.assertEqual(picked(HEAP, (1, "same", 1)), HEAP)

    def test_of_the_empty_heap_any_place_will_do(self):
        for word in ["is", "below", "above", "same"]:
            for place in [0, 7, 8, 99, GREAT]:
                self.assertEqual(picked([], (place, word, place)), [])

    def test_great_numbers(self):
        heap = [((-GREAT, 1), GREAT), ((GREAT, 1), -GREAT)]
        self.assertEqual(picked(heap, (0, "is", GREAT)), heap[1:])
        self.assertEqual(picked(heap, (0, "below", GREAT)), heap[:1])
        self.assertEqual(picked(heap, (0, "above", -GREAT)), heap[1:])

    def test_against_another_reckoning(self):
        for source in seeds():
            for width in (1, 2, 3, 8):
                heap = random_heap(source, width)
                place, number = source.randrange(width), source.randint(-2, 3)
                other = source.randrange(width)
                told = {
                    (place, "is", number): [pair for pair in heap if pair[0][place] == number],
                    (place, "below", number): [pair for pair in heap if pair[0][place] < number],
                    (place, "above", number): [pair for pair in heap if pair[0][place] > number],
                    (place, "same", other): [pair for pair in heap if pair[0][place] == pair[0][other]],
                }
                for check, answer in told.items():
                    with self.subTest(heap=heap, check=check):
                        self.assertEqual(picked(heap, check), answer)
                        check_plain_heap(self, picked(heap, check), width)


class Taken(unittest.TestCase):
    def test_places_in_their_own_order(self):
        self.assertEqual(taken([((1, 2, 3), 4)], (2, 0)), [((3, 1), 4)])
        self.assertEqual(taken([((1, 2, 3), 4)], (1,)), [((2,), 4)])
        self.assertEqual(taken(HEAP, (0, 1, 2)), HEAP)

    def test_places_alike(self):
        self.assertEqual(taken([((1, 2), 4)], (1, 1, 0, 1)), [((2, 2, 1, 2), 4)])
        self.assertEqual(taken([((5,), -1), ((6,), 2)], (0,) * 8), [((5,) * 8, -1), ((6,) * 8, 2)])

    def test_rows_are_put_in_order_anew(self):
        self.assertEqual(taken([((1, 9), 1), ((2, 8), 1), ((3, -7), 1)], (1,)),
                         [((-7,), 1), ((8,), 1), ((9,), 1)])

    def test_rows_that_come_to_the_same_are_summed(self):
        self.assertEqual(taken(HEAP, (0,)), [((1,), 2), ((2,), 7), ((4,), -2)])
        self.assertEqual(taken([((1, 1), 2), ((1, 2), -2), ((2, 1), 1)], (0,)), [((2,), 1)])
        self.assertEqual(taken([((1, 1), -2), ((1, 2), -2)], (0, 0)), [((1, 1), -4)])
        self.assertEqual(taken([((1, 1), GREAT), ((1, 2), GREAT)], (0,)), [((1,), 2 * GREAT)])

    def test_of_the_empty_heap_any_places_will_do(self):
        for places in [(0,), (7,), (99, 0), (GREAT,) * 8]:
            self.assertEqual(taken([], places), [])

    def test_against_another_reckoning(self):
        for source in seeds():
            for width in (1, 2, 3, 8):
                heap = random_heap(source, width)
                places = tuple(source.randrange(width) for turn in range(source.randint(1, 8)))
                pairs = [(tuple(row[place] for place in places), weight) for row, weight in heap]
                told = taken(heap, places)
                with self.subTest(heap=heap, places=places):
                    self.assertEqual(told, heap_from(table_of(pairs)))
                    check_plain_heap(self, told, len(places))


class Once(unittest.TestCase):
    def test_rows_there_have_the_weight_1_and_no_others_stand(self):
        self.assertEqual(once(HEAP), [((1, 2, 1), 1), ((2, -5, 2), 1)])
        self.assertEqual(once([]), [])
        self.assertEqual(once([((1,), -1), ((2,), -GREAT)]), [])
        self.assertEqual(once([((1,), 1), ((2,), GREAT)]), [((1,), 1), ((2,), 1)])

    def test_once_more_changes_nothing(self):
        for source in seeds():
            for width in (1, 2, 8):
                heap = random_heap(source, width)
                told = once(heap)
                self.assertEqual(told, [(row, 1) for row, weight in heap if weight > 0])
                self.assertEqual(once(told), told)
                check_plain_heap(self, told, width)


class AskersOwn(unittest.TestCase):
    def tell(self, one):
        return [
            picked(one, (0, "above", -9)), picked(one, (0, "same", 0)), picked(one, (1, "is", 3)),
            taken(one, (0, 1, 2)), taken(one, (0,)), once(one), once([((1, 1, 1), 1)]),
        ]

    def test_nothing_handed_in_is_changed(self):
        one = list(HEAP)
        self.tell(one)
        self.assertEqual(one, HEAP)

    def test_what_was_told_stays_when_what_was_handed_in_is_changed(self):
        one = list(HEAP)
        told = self.tell(one)
        kept = [list(heap) for heap in told]
        one.clear()
        self.assertEqual(told, kept)
        alike = [((1,), 1)]
        answer = once(alike)
        alike.append(((2,), 1))
        self.assertEqual(answer, [((1,), 1)])

    def test_what_was_told_stays_when_another_told_list_is_changed(self):
        one = list(HEAP)
        told = self.tell(one)
        kept = [list(heap) for heap in told]
        for turn in range(len(told)):
            told[turn].append("changed")
            self.assertEqual(told[turn + 1:], kept[turn + 1:])
        self.assertEqual(one, HEAP)
        self.assertEqual(self.tell(one), kept)

    def test_empty_answers_are_not_shared(self):
        for tell in [lambda: picked([], (0, "is", 0)), lambda: taken([], (0,)), lambda: once([])]:
            tell().append("changed")
            self.assertEqual(tell(), [])


if __name__ == "__main__":
    unittest.main()
