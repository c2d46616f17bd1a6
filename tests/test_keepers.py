"""Keepers for once, for joined and for left over: promises 11 to 13."""

import inspect
import random
import unittest

import reckoned
from deltahouse.errors import TooMuch
from deltahouse.keepers import JoinKeeper, LeftKeeper, OnceKeeper
from keeping import Kept, KeeperChecks, summed_up, turned
from samples import GREAT, check_refused, random_heap, seeds

# Of such widths and pairs at most 256 of the rows that random_heap makes can meet: none of them is refused.
TWO_HEAPS = [
    (1, 1, ((0, 0),)), (1, 1, ()), (2, 2, ()), (2, 2, ((0, 1),)), (2, 2, ((1, 0), (1, 0))), (2, 1, ((0, 0), (1, 0))),
    (1, 7, ((0, 3), (0, 6))), (4, 4, ((0, 0), (1, 1), (2, 2), (3, 3))),
]


def rising(count, start=0):
    """A heap of so many rows of one number each."""
    return [((number,), 1) for number in range(start, start + count)]


def kept_for_once(width):
    return Kept(f"once {width}", OnceKeeper, (width,), reckoned.once, width)


def kept_for_joined(width, other_width, pairs):
    return Kept(f"joined {width} {other_width} {pairs}", lambda: JoinKeeper(pairs), (width, other_width),
                lambda one, other: reckoned.joined(one, other, pairs), width + other_width)


def kept_for_left_over(width, other_width, pairs):
    return Kept(f"left over {width} {other_width} {pairs}", lambda: LeftKeeper(pairs), (width, other_width),
                lambda one, other: reckoned.left_over(one, other, pairs), width)


class Interface(unittest.TestCase):
    def test_names_and_arguments(self):
        for keeper, made_of, handed in [
            (OnceKeeper, [], ["one"]),
            (JoinKeeper, ["pairs"], ["one", "other"]),
            (LeftKeeper, ["pairs"], ["one", "other"]),
        ]:
            with self.subTest(keeper=keeper.__name__):
                self.assertEqual(list(inspect.signature(keeper).parameters), made_of)
                self.assertEqual(list(inspect.signature(keeper.change).parameters), ["self"] + handed)


class OnceKept(KeeperChecks, unittest.TestCase):
    kept = [kept_for_once(width) for width in (1, 2, 3, 8)]

    def test_rows_come_and_go_where_the_weight_passes_0(self):
        keeper = OnceKeeper()
        self.assertEqual(keeper.change([((1,), 1), ((2,), -1)]), [((1,), 1)])
        self.assertEqual(keeper.change([((1,), 5), ((2,), 1)]), [])
        self.assertEqual(keeper.change([((1,), -5), ((2,), 1)]), [((2,), 1)])
        self.assertEqual(keeper.change([((1,), -1), ((2,), -3)]), [((1,), -1), ((2,), -1)])
        self.assertEqual(keeper.change([((1,), -1), ((2,), 2)]), [])
        self.assertEqual(keeper.change([((1,), 1), ((2,), 1)]), [((2,), 1)])

    def test_great_weights(self):
        keeper = OnceKeeper()
        self.assertEqual(keeper.change([((GREAT,), GREAT)]), [((GREAT,), 1)])
        self.assertEqual(keeper.change([((GREAT,), 1 - GREAT)]), [])
        self.assertEqual(keeper.change([((GREAT,), -1)]), [((GREAT,), -1)])


class JoinKept(KeeperChecks, unittest.TestCase):
    kept = [kept_for_joined(*told) for told in TWO_HEAPS]

    def test_either_heap_and_both_change(self):
        keeper = JoinKeeper(((0, 0),))
        self.assertEqual(keeper.change([((1, 5), 2)], []), [])
        self.assertEqual(keeper.change([], [((1,), 3), ((2,), 1)]), [((1, 5, 1), 6)])
        self.assertEqual(keeper.change([((1, 5), -1), ((2, 6), 4)], [((1,), 2)]),
                         [((1, 5, 1), -1), ((2, 6, 2), 4)])

    def test_what_comes_to_the_same_is_not_told(self):
        keeper = JoinKeeper(())
        keeper.change([((1,), 2)], [((1,), 6)])
        self.assertEqual(keeper.change([((1,), 1)], [((1,), -2)]), [])
        self.assertEqual(keeper.change([((1,), -6)], [((1,), -8)]), [])

    def test_rows_that_go_and_come_in_one_change(self):
        keeper = JoinKeeper(((0, 0),))
        keeper.change([((1, 5), 1)], [((1,), 1)])
        self.assertEqual(keeper.change([((1, 5), -1), ((1, 6), 1)], []), [((1, 5, 1), -1), ((1, 6, 1), 1)])
        self.assertEqual(keeper.change([((1, 6), -1), ((2, 6), 1)], [((1,), -1), ((2,), 1)]),
                         [((1, 6, 1), -1), ((2, 6, 2), 1)])

    def test_great_weights(self):
        keeper = JoinKeeper(())
        self.assertEqual(keeper.change([((GREAT,), GREAT)], [((-GREAT,), -GREAT)]),
                         [((GREAT, -GREAT), -GREAT * GREAT)])
        self.assertEqual(keeper.change([((GREAT,), GREAT)], []), [((GREAT, -GREAT), -GREAT * GREAT)])


class LeftKept(KeeperChecks, unittest.TestCase):
    kept = [kept_for_left_over(*told) for told in TWO_HEAPS + [(8, 8, ((0, 7),)), (3, 8, ()), (8, 1, ((7, 0),))]]

    def test_rows_go_with_the_first_that_is_there_and_come_back_with_the_last(self):
        keeper = LeftKeeper(((0, 0),))
        self.assertEqual(keeper.change([((1, 5), 2), ((1, 6), -3), ((2, 5), 1)], []),
                         [((1, 5), 2), ((1, 6), -3), ((2, 5), 1)])
        self.assertEqual(keeper.change([], [((1, 1, 1), -1)]), [])
        self.assertEqual(keeper.change([], [((1, 1, 2), 1)]), [((1, 5), -2), ((1, 6), 3)])
        self.assertEqual(keeper.change([], [((1, 1, 1), 2)]), [])
        self.assertEqual(keeper.change([((1, 5), 7)], [((1, 1, 2), -1)]), [])
        self.assertEqual(keeper.change([], [((1, 1, 1), -1)]), [((1, 5), 9), ((1, 6), -3)])

    def test_rows_that_go_and_come_in_one_change(self):
        keeper = LeftKeeper(((0, 0),))
        keeper.change([((1, 5), 1), ((2, 5), 1)], [((1,), 1)])
        self.assertEqual(keeper.change([], [((1,), -1), ((2,), 1)]), [((1, 5), 1), ((2, 5), -1)])
        self.assertEqual(keeper.change([((1, 5), -1), ((1, 6), 4)], []), [((1, 5), -1), ((1, 6), 4)])

    def test_no_pairs(self):
        keeper = LeftKeeper(())
        self.assertEqual(keeper.change([((1,), 1), ((2,), -GREAT)], [((9, 9), -1)]), [((1,), 1), ((2,), -GREAT)])
        self.assertEqual(keeper.change([((3,), 1)], [((8, 8), 1)]), [((1,), -1), ((2,), GREAT)])
        self.assertEqual(keeper.change([], [((8, 8), -1)]), [((1,), 1), ((2,), -GREAT), ((3,), 1)])

    def test_more_than_four_hundred_that_meet_are_not_refused(self):
        keeper = LeftKeeper(())
        self.assertEqual(keeper.change(rising(50), rising(50)), [])
        self.assertEqual(keeper.change([], turned(rising(50))), rising(50))


class TooManyMeet(unittest.TestCase):
    def check_refused(self, keeper, one, other):
        handed = list(one), list(other)
        check_refused(self, TooMuch, keeper.change, *handed)
        self.assertEqual(handed, (one, other))

    def test_four_hundred_and_four_hundred_and_one(self):
        keeper = JoinKeeper(())
        self.assertEqual(len(keeper.change(rising(20), rising(20))), 400)
        for one, other in [(rising(1, 20), []), ([], rising(1, 20)), (rising(1, 20), rising(1, 20))]:
            self.check_refused(keeper, one, other)
        self.check_refused(JoinKeeper(()), rising(401), rising(1))
        self.check_refused(JoinKeeper(()), rising(1), rising(401))
        self.assertEqual(len(JoinKeeper(()).change(rising(400), rising(1))), 400)

    def test_pairs_of_many_keys_are_counted_together(self):
        keeper = JoinKeeper(((0, 0),))
        self.assertEqual(len(keeper.change(rising(400), rising(400))), 400)
        self.assertEqual(keeper.change(rising(1, 400), []), [])
        self.check_refused(keeper, [], rising(1, 400))
        self.assertEqual(keeper.change(turned(rising(1)), []), [((0, 0), -1)])
        self.assertEqual(keeper.change([], rising(1, 400)), [((400, 400), 1)])
        self.check_refused(keeper, rising(1), [])

    def test_rows_that_do_not_meet_are_not_counted(self):
        keeper = JoinKeeper(((0, 0),))
        self.assertEqual(keeper.change(rising(900), rising(900, 900)), [])
        self.assertEqual(JoinKeeper(()).change(rising(1000), []), [])

    def test_weights_below_0_are_counted_and_great_ones_once(self):
        keeper = JoinKeeper(())
        self.assertEqual(len(keeper.change(turned(rising(20)), rising(20))), 400)
        self.check_refused(keeper, [((20,), -1)], [])
        # Heavier rows are no more rows, and rows that come to 0 are none.
        self.assertEqual(len(keeper.change([((0,), GREAT)], [])), 20)
        self.assertEqual(len(keeper.change([((0,), 1 - GREAT)], [])), 20)
        self.assertEqual(len(keeper.change([((20,), 1)], [])), 20)

    def test_nothing_is_changed_by_a_refused_change(self):
        keeper = JoinKeeper(((0, 0),))
        keeper.change([((1, 1), 1)], [((1, 1), 1)])
        many = [((1, number), 1) for number in range(1000)]
        self.check_refused(keeper, many, many)
        self.check_refused(keeper, many, [])
        self.check_refused(keeper, [], many)
        self.assertEqual(keeper.change([], []), [])
        self.assertEqual(keeper.change([((1, 2), 3)], [((1, 3), 5)]),
                         [((1, 1, 1, 3), 5), ((1, 2, 1, 1), 3), ((1, 2, 1, 3), 15)])
        self.assertEqual(keeper.change([((1, 1), -1), ((1, 2), -3)], []),
                         [((1, 1, 1, 1), -1), ((1, 1, 1, 3), -5), ((1, 2, 1, 1), -3), ((1, 2, 1, 3), -15)])
        self.assertEqual(keeper.change([((1, 9), 1)], []), [((1, 9, 1, 1), 1), ((1, 9, 1, 3), 5)])

    def test_what_would_have_met_on_the_way_is_not_asked(self):
        # Old rows with new ones, or new ones with old ones, would be far more than four hundred pairs.
        one, other = rising(400), rising(1)
        keeper = JoinKeeper(())
        before = keeper.change(one, other)
        told = keeper.change(turned(one) + rising(1, 500), turned(other) + rising(400, 1000))
        self.assertEqual(summed_up([before, told]), [((500, number), 1) for number in range(1000, 1400)])
        self.assertEqual(len(told), 800)

    def test_several_laid_together_may_be_taken_where_one_of_them_is_not(self):
        keeper = JoinKeeper(())
        self.check_refused(keeper, rising(21), rising(21))
        self.assertEqual(keeper.change(summed_up([rising(21), turned(rising(21))]), rising(21)), [])
        self.assertEqual(keeper.change(rising(1), []), [((0, number), 1) for number in range(21)])

    def test_a_change_turned_is_never_refused(self):
        keeper = JoinKeeper(())
        keeper.change(rising(400), rising(1))
        change = turned(rising(400)) + rising(1, 400), rising(399, 1)
        told = keeper.change(*change)
        self.assertEqual(keeper.change(turned(change[0]), turned(change[1])), turned(told))

    def test_against_another_reckoning(self):
        refused, taken = 0, 0
        for source in seeds(30):
            keeper, ones, others = JoinKeeper(((0, 1),)), [], []
            for turn in range(20):
                one, other = (random_heap(source, 3, source.choice([0, 2, 15, 30])) for side in range(2))
                ones_now, others_now = summed_up([ones, one]), summed_up([others, other])
                if reckoned.meetings(ones_now, others_now, ((0, 1),)) > 400:
                    self.check_refused(keeper, one, other)
                    refused += 1
                    continue
                before = reckoned.joined(ones, others, ((0, 1),))
                ones, others = ones_now, others_now
                now = reckoned.joined(ones, others, ((0, 1),))
                self.assertEqual(keeper.change(one, other), summed_up([now, turned(before)]))
                taken += 1
        self.assertGreater(refused, 50)
        self.assertGreater(taken, 50)


class ManyChanges(unittest.TestCase):
    def test_a_thousand_changes_taken_back_in_another_order(self):
        source = random.Random(7)
        pairs = ((0, 0),)
        keepers = [OnceKeeper(), JoinKeeper(pairs), LeftKeeper(pairs)]
        rows = [((number, number + 1), 1) for number in range(500)]
        changes = [[row] for row in rows]
        back = [turned(change) for change in changes]
        source.shuffle(back)
        sums = [[], [], []]
        for change in changes + back:
            sums[0].append(keepers[0].change(change))
            sums[1].append(keepers[1].change(change, change if change[0][0][0] < 400 else []))
            sums[2].append(keepers[2].change(change, change if change[0][0][0] < 400 else []))
        self.assertEqual([summed_up(told) for told in sums], [[], [], []])
        self.assertEqual(summed_up(sums[0][:500]), rows)
        self.assertEqual(summed_up(sums[1][:500]), [(row + row, 1) for row, weight in rows[:400]])
        self.assertEqual(summed_up(sums[2][:500]), rows[400:])


if __name__ == "__main__":
    unittest.main()
