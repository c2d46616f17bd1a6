"""Keepers for groups: promises 11 and 12."""

import inspect
import unittest

import reckoned
from deltahouse.gkeepers import GroupKeeper
from keeping import Kept, KeeperChecks
from samples import GREAT

WORDS = ("count", "sum", "least", "most")
# Each a width, a place and keys.
SHAPES = [
    (1, 0, ()), (1, 0, (0,)), (2, 1, (0,)), (2, 0, ()), (3, 2, (1, 1)), (3, 0, (2, 0)), (8, 7, (0, 1, 2, 3, 4, 5, 6)),
]


def kept_for_groups(word, width, place, keys):
    return Kept(f"{word} {width} {place} {keys}", lambda: GroupKeeper(word, place, keys), (width,),
                lambda one: reckoned.grouped(word, one, place, keys), len(keys) + 1)


class Interface(unittest.TestCase):
    def test_names_and_arguments(self):
        self.assertEqual(list(inspect.signature(GroupKeeper).parameters), ["word", "place", "keys"])
        self.assertEqual(list(inspect.signature(GroupKeeper.change).parameters), ["self", "one"])


class GroupsKept(KeeperChecks, unittest.TestCase):
    kept = [kept_for_groups(word, *shape) for word in WORDS for shape in SHAPES]

    def test_a_groups_row_goes_and_another_comes(self):
        told = {
            "count": [[((1, 2), 1)], [((1, 2), -1), ((1, 3), 1)], [((1, 3), -1), ((2, 1), 1)]],
            "sum": [[((1, 12), 1)], [((1, 12), -1), ((1, 16), 1)], [((1, 16), -1), ((2, 8), 1)]],
            "least": [[((1, 5), 1)], [((1, 4), 1), ((1, 5), -1)], [((1, 4), -1), ((2, 8), 1)]],
            "most": [[((1, 7), 1)], [], [((1, 7), -1), ((2, 8), 1)]],
        }
        changes = [
            [((1, 5), 1), ((1, 7), 1)], [((1, 4), 1)], [((1, 4), -1), ((1, 5), -1), ((1, 7), -1), ((2, 8), 1)],
        ]
        for word in WORDS:
            with self.subTest(word=word):
                keeper = GroupKeeper(word, 1, (0,))
                self.assertEqual([keeper.change(change) for change in changes], told[word])

    def test_for_count_the_place_is_not_looked_at(self):
        for place in [0, 1, 7, 99, GREAT]:
            keeper = GroupKeeper("count", place, (0,))
            self.assertEqual(keeper.change([((1, 5), 2), ((1, 6), 1)]), [((1, 3), 1)])
            self.assertEqual(keeper.change([((1, 6), -1)]), [((1, 2), 1), ((1, 3), -1)])

    def test_a_group_whose_weights_come_to_0_stays(self):
        keeper = GroupKeeper("count", 0, (0,))
        self.assertEqual(keeper.change([((1, 5), 1)]), [((1, 1), 1)])
        self.assertEqual(keeper.change([((1, 6), -1)]), [((1, 0), 1), ((1, 1), -1)])
        self.assertEqual(keeper.change([((1, 5), -1), ((1, 6), 1)]), [((1, 0), -1)])

    def test_a_sum_of_0_stays_and_goes_with_the_last_row(self):
        keeper = GroupKeeper("sum", 1, ())
        self.assertEqual(keeper.change([((1, 5), 1), ((2, -5), 1)]), [((0,), 1)])
        self.assertEqual(keeper.change([((1, 5), -1), ((2, -5), -1), ((3, 0), 1)]), [])
        self.assertEqual(keeper.change([((3, 0), -1)]), [((0,), -1)])

    def test_a_group_with_no_row_that_is_there_tells_no_least_and_no_most(self):
        for word in ["least", "most"]:
            keeper = GroupKeeper(word, 1, (0,))
            self.assertEqual(keeper.change([((1, 5), -1)]), [])
            self.assertEqual(keeper.change([((1, 5), 2)]), [((1, 5), 1)])
            self.assertEqual(keeper.change([((1, 5), -1)]), [((1, 5), -1)])
            self.assertEqual(keeper.change([((1, 5), -1)]), [])

    def test_the_next_least_and_most_come_up(self):
        heap = [((number,), 1) for number in range(5)]
        least, most = GroupKeeper("least", 0, ()), GroupKeeper("most", 0, ())
        self.assertEqual(least.change(heap), [((0,), 1)])
        self.assertEqual(most.change(heap), [((4,), 1)])
        self.assertEqual(least.change([((0,), -1), ((1,), -2)]), [((0,), -1), ((2,), 1)])
        self.assertEqual(most.change([((3,), -1), ((4,), -1)]), [((2,), 1), ((4,), -1)])

    def test_rows_that_go_and_come_in_one_change(self):
        for word, told in [("count", []), ("sum", [((1, 5), -1), ((1, 6), 1)]), ("least", [((1, 5), -1), ((1, 6), 1)])]:
            keeper = GroupKeeper(word, 1, (0,))
            keeper.change([((1, 5), 1)])
            self.assertEqual(keeper.change([((1, 5), -1), ((1, 6), 1)]), told)

    def test_great_weights(self):
        keeper = GroupKeeper("sum", 0, ())
        self.assertEqual(keeper.change([((GREAT,), GREAT)]), [((GREAT * GREAT,), 1)])
        self.assertEqual(keeper.change([((GREAT,), 1)]), [((GREAT * GREAT,), -1), ((GREAT * GREAT + GREAT,), 1)])


if __name__ == "__main__":
    unittest.main()
