"""Questions of two heaps: promise 9, and what 2 and 5 say of them."""

import inspect
import unittest

import reckoned
from deltahouse import joins
from deltahouse.joins import agree, joined, left_over, meetings
from samples import GREAT, check_plain_heap, random_heap, seeds

ONE = [((1, 5), 2), ((1, 6), -3), ((2, 5), 1), ((4, 4), 5)]
OTHER = [((1,), 7), ((2,), -2), ((3,), 1)]
WIDTHS_OF_TWO = [(1, 1), (1, 7), (7, 1), (2, 1), (2, 2), (3, 5), (4, 4)]


def random_places(source, width, other_width):
    """Pairs of places, perhaps none, perhaps some alike."""
    pairs = [(source.randrange(width), source.randrange(other_width)) for turn in range(source.randint(0, 2))]
    return tuple(pairs + pairs[:source.randint(0, 1)])


class Interface(unittest.TestCase):
    def test_names_and_arguments(self):
        told = {
            "agree": ["row", "other", "pairs"], "meetings": ["one", "other", "pairs"],
            "joined": ["one", "other", "pairs"], "left_over": ["one", "other", "pairs"],
        }
        for name, arguments in told.items():
            with self.subTest(name=name):
                found = inspect.signature(getattr(joins, name)).parameters
                self.assertEqual(list(found), arguments)


class Agree(unittest.TestCase):
    def test_by_no_pairs_all_rows_agree(self):
        self.assertIs(agree((1,), (2, 3), ()), True)
        self.assertIs(agree((GREAT,) * 8, (-GREAT,) * 8, ()), True)

    def test_the_first_place_is_the_rows_the_second_the_others(self):
        row, other = (1, 2, 3), (3, 9, 1, 2)
        for first in range(3):
            for second in range(4):
                self.assertIs(agree(row, other, ((first, second),)), row[first] == other[second])

    def test_every_pair_must_hold(self):
        pairs = ((0, 0), (1, 1), (2, 0))
        self.assertIs(agree((1, 2, 1), (1, 2), pairs), True)
        self.assertIs(agree((0, 2, 1), (1, 2), pairs), False)
        self.assertIs(agree((1, 0, 1), (1, 2), pairs), False)
        self.assertIs(agree((1, 2, 0), (1, 2), pairs), False)

    def test_pairs_alike(self):
        self.assertIs(agree((1, 2), (2, 1), ((0, 1), (0, 1))), True)
        self.assertIs(agree((1, 2), (1, 2), ((0, 1), (0, 1), (0, 1))), False)

    def test_great_numbers(self):
        self.assertIs(agree((GREAT,), (0, GREAT), ((0, 1),)), True)
        self.assertIs(agree((GREAT,), (0, GREAT - 1), ((0, 1),)), False)
        self.assertIs(agree((GREAT,), (0, -GREAT), ((0, 1),)), False)


class Meetings(unittest.TestCase):
    def test_of_whatever_weights(self):
        self.assertEqual(meetings(ONE, OTHER, ((0, 0),)), 3)
        self.assertEqual(meetings([((1,), -1)], [((1, 1), -1), ((1, 2), GREAT)], ((0, 0),)), 2)
        self.assertEqual(meetings([((1,), 1), ((2,), -1)], [((1,), 1), ((2,), -1)], ()), 4)

    def test_no_pairs(self):
        self.assertEqual(meetings(ONE, OTHER, ()), 12)

    def test_pairs_alike(self):
        self.assertEqual(meetings(ONE, OTHER, ((0, 0), (0, 0))), 3)
        self.assertEqual(meetings(ONE, ONE, ((0, 1), (0, 1))), 1)

    def test_none_meet(self):
        for told in [meetings([], [], ()), meetings(ONE, [], ()), meetings([], ONE, ()),
                     meetings(ONE, OTHER, ((1, 0),))]:
            self.assertEqual(told, 0)
            self.assertIs(type(told), int)

    def test_more_than_can_be_joined_are_counted_too(self):
        many = [((number, number % 2), 1) for number in range(1000)]
        self.assertEqual(meetings(many, many, ()), 1000000)
        self.assertEqual(meetings(many, many, ((1, 1),)), 500000)
        self.assertEqual(meetings(many, many, ((0, 0),)), 1000)


class Joined(unittest.TestCase):
    def test_ones_numbers_then_the_others_and_weights_multiplied(self):
        self.assertEqual(joined(ONE, OTHER, ((0, 0),)), [((1, 5, 1), 14), ((1, 6, 1), -21), ((2, 5, 2), -2)])
        self.assertEqual(joined(OTHER, ONE, ((0, 0),)), [((1, 1, 5), 14), ((1, 1, 6), -21), ((2, 2, 5), -2)])

    def test_two_weights_below_0_give_one_above(self):
        self.assertEqual(joined([((1,), -2)], [((1,), -3)], ((0, 0),)), [((1, 1), 6)])

    def test_no_pairs(self):
        self.assertEqual(joined([((1,), 2), ((3,), -1)], [((0,), 5), ((9,), 1)], ()),
                         [((1, 0), 10), ((1, 9), 2), ((3, 0), -5), ((3, 9), -1)])

    def test_pairs_alike_are_one_pair(self):
        self.assertEqual(joined(ONE, OTHER, ((0, 0),) * 3), joined(ONE, OTHER, ((0, 0),)))

    def test_pairs_that_share_a_place(self):
        self.assertEqual(joined(ONE, OTHER, ((0, 0), (1, 0))), [])
        self.assertEqual(joined([((3, 3), 2), ((3, 4), 1)], OTHER, ((0, 0), (1, 0))), [((3, 3, 3), 2)])
        self.assertEqual(joined(OTHER, [((2, 2), 2), ((2, 3), 1)], ((0, 0), (0, 1))), [((2, 2, 2), -4)])

    def test_places_are_not_mixed_up(self):
        one, other = [((1, 2, 3), 1)], [((3, 1), 1), ((3, 2), 1)]
        self.assertEqual(joined(one, other, ((0, 1), (2, 0))), [((1, 2, 3, 3, 1), 1)])
        self.assertEqual(joined(one, other, ((2, 0), (0, 1))), [((1, 2, 3, 3, 1), 1)])

    def test_widths_that_come_to_eight(self):
        for width in range(1, 8):
            one = [((1,) * width, 2), ((2,) * width, 3)]
            other = [((0,) * (8 - width), 1), ((2,) * (8 - width), -5)]
            pairs = tuple((place, place % (8 - width)) for place in range(width))
            told = joined(one, other, pairs)
            self.assertEqual(told, [((2,) * 8, -15)])
            check_plain_heap(self, told, 8)

    def test_empty_heaps_and_any_place_of_them(self):
        self.assertEqual(joined([], [], ((GREAT, 9),)), [])
        self.assertEqual(joined(ONE, [], ((1, 99),)), [])
        self.assertEqual(joined([], OTHER, ((99, 0),)), [])
        self.assertEqual(meetings(ONE, [], ((1, 99),)), 0)
        self.assertEqual(meetings([], OTHER, ((99, 0),)), 0)

    def test_great_numbers(self):
        one, other = [((-GREAT, 1), GREAT), ((GREAT, 1), -GREAT)], [((GREAT,), GREAT)]
        self.assertEqual(joined(one, other, ((0, 0),)), [((GREAT, 1, GREAT), -GREAT * GREAT)])

    def test_a_thousand_meet(self):
        one = [((number,), number) for number in range(1, 26)]
        other = [((number,), -1) for number in range(40)]
        told = joined(one, other, ())
        self.assertEqual(len(told), 1000)
        self.assertEqual(told, reckoned.joined(one, other, ()))


class LeftOver(unittest.TestCase):
    def test_rows_that_agree_with_no_row_that_is_there(self):
        # The row (2,) stands in the other heap, but below 0: it is not there, and takes nothing away.
        self.assertEqual(left_over(ONE, OTHER, ((0, 0),)), [((2, 5), 1), ((4, 4), 5)])
        self.assertEqual(left_over(OTHER, ONE, ((0, 0),)), [((3,), 1)])

    def test_weights_stay_those_below_0_too(self):
        self.assertEqual(left_over([((1,), -7), ((2,), GREAT)], [((5,), 1)], ((0, 0),)),
                         [((1,), -7), ((2,), GREAT)])
        self.assertEqual(left_over([((5,), -7)], [((5,), 1)], ((0, 0),)), [])

    def test_one_row_that_is_there_among_others_is_enough(self):
        other = [((1, 0), -9), ((1, 1), 1), ((1, 2), -9), ((2, 2), -9)]
        self.assertEqual(left_over([((1,), 3), ((2,), 4)], other, ((0, 0),)), [((2,), 4)])

    def test_no_pairs(self):
        self.assertEqual(left_over(ONE, OTHER, ()), [])
        self.assertEqual(left_over(ONE, [], ()), ONE)
        self.assertEqual(left_over(ONE, [((9,), -1), ((10,), -1)], ()), ONE)
        self.assertEqual(left_over(ONE, [((9,), -1), ((10,), 1)], ()), [])

    def test_pairs_alike(self):
        self.assertEqual(left_over(ONE, OTHER, ((0, 0), (0, 0))), left_over(ONE, OTHER, ((0, 0),)))

    def test_rows_of_another_width(self):
        other = [((5,) * 8, 1)]
        self.assertEqual(left_over(ONE, other, ((1, 7),)), [((1, 6), -3), ((4, 4), 5)])
        self.assertEqual(left_over(other, ONE, ((7, 1),)), [])
        self.assertEqual(left_over([((1,) * 8, 2)], [((1,) * 8, 1)], ((0, 7),)), [])
        self.assertEqual(left_over([((1,) * 8, 2)], [((2,) * 8, 1)], ((0, 7),)), [((1,) * 8, 2)])

    def test_empty_heaps_and_any_place_of_them(self):
        self.assertEqual(left_over([], [], ((GREAT, GREAT),)), [])
        self.assertEqual(left_over([], OTHER, ((99, 0),)), [])
        self.assertEqual(left_over(ONE, [], ((0, 99),)), ONE)


class AnotherReckoning(unittest.TestCase):
    def test_all_questions_of_two_heaps(self):
        for source in seeds():
            for width, other_width in WIDTHS_OF_TWO:
                one, other = random_heap(source, width), random_heap(source, other_width)
                pairs = random_places(source, width, other_width)
                with self.subTest(one=one, other=other, pairs=pairs):
                    self.assertEqual(joined(one, other, pairs), reckoned.joined(one, other, pairs))
                    self.assertEqual(left_over(one, other, pairs), reckoned.left_over(one, other, pairs))
                    self.assertEqual(meetings(one, other, pairs), reckoned.meetings(one, other, pairs))
                    self.assertEqual(meetings(one, other, pairs), len(joined(one, other, pairs)))
                    check_plain_heap(self, joined(one, other, pairs), width + other_width)
                    check_plain_heap(self, left_over(one, other, pairs), width)
                    for row, weight in one:
                        for known, number in other:
                            self.assertIs(agree(row, known, pairs), reckoned.agree(row, known, pairs))


class AskersOwn(unittest.TestCase):
    def tell(self, one, other, pairs):
        return [
            joined(one, other, pairs), joined(one, other, ()), joined([], other, pairs),
            left_over(one, other, pairs), left_over(one, [], ()), left_over([], other, ()),
        ]

    def test_nothing_handed_in_is_changed(self):
        one, other, pairs = list(ONE), list(OTHER), ((0, 0),)
        self.tell(one, other, pairs)
        meetings(one, other, pairs)
        agree(one[0][0], other[0][0], pairs)
        self.assertEqual((one, other, pairs), (ONE, OTHER, ((0, 0),)))

    def test_what_was_told_stays_when_what_was_handed_in_is_changed(self):
        one, other = list(ONE), list(OTHER)
        told = self.tell(one, other, ((0, 0),))
        kept = [list(heap) for heap in told]
        one.clear()
        other.append(((9,), 9))
        self.assertEqual(told, kept)

    def test_what_was_told_stays_when_another_told_list_is_changed(self):
        one, other = list(ONE), list(OTHER)
        told = self.tell(one, other, ((0, 0),))
        kept = [list(heap) for heap in told]
        for turn in range(len(told)):
            told[turn].append("changed")
            self.assertEqual(told[turn + 1:], kept[turn + 1:])
        self.assertEqual((one, other), (ONE, OTHER))
        self.assertEqual(self.tell(one, other, ((0, 0),)), kept)


if __name__ == "__main__":
    unittest.main()
