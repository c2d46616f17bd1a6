"""Moments: promises 28 to 31, and what 2, 3, 5 and 6 say of them."""

import inspect
import itertools
import unittest

import booked
from deltahouse.books import read_book
from deltahouse.errors import NoHeap, NoMoment, NoName, TooLate, TooMuch
from deltahouse.live import Live
from deltahouse.moments import Moments
from deltahouse.plain import answers
from housed import (
    EVERY, LAST, PATHS, Reckoned, book_of, cut_bundles, names_in, random_bundle, read_changes, rows, shown,
    small_books, told_by_name, told_or_refusal, turned_bundle,
)
from ringed import copied, spoiled
from samples import GREAT, Odd, check_plain_heap, check_refused, seeds, wrong_things

# Each beside a moment that it is like, or near.
NO_MOMENTS = [
    -1, -LAST, 10 ** 60, GREAT, -GREAT, True, False, None, "", "0", "5", [], [5], (), (5,), {}, {5}, 0.0, 5.0, 1j,
    b"5", range(5), object(), Odd(), int, float("nan"), float("inf"),
]


class Made(Moments):
    """A house by moments made of lines, which can be asked for all its answers at once."""

    def __init__(self, *lines):
        super().__init__(book_of(*lines))
        self.every_name = names_in(book_of(*lines))

    def told(self, moment, *pairs):
        return shown(self.take_in(moment, read_changes(*pairs)))

    def shown_at(self, moment, name):
        return shown([(name, self.answer(moment, name))])[0][1]

    def all_at(self, *moments):
        return [(moment, name, self.answer(moment, name)) for moment in moments for name in self.every_name]


class MomentCase(unittest.TestCase):
    def check_stays(self, house, moments, refusal, moment, changes):
        """That changes are refused, and that the answers at these moments are then what they were."""
        before = house.all_at(*moments)
        check_refused(self, refusal, house.take_in, moment, changes)
        self.assertEqual(house.all_at(*moments), before)


class Interface(unittest.TestCase):
    def test_names_and_arguments(self):
        self.assertEqual(list(inspect.signature(Moments).parameters), ["book"])
        self.assertEqual(list(inspect.signature(Moments.take_in).parameters), ["self", "moment", "changes"])
        self.assertEqual(list(inspect.signature(Moments.answer).parameters), ["self", "moment", "name"])
        self.assertEqual(list(inspect.signature(Moments.settle).parameters), ["self", "moment"])

    def test_settle_tells_none(self):
        house = Made("table t 1")
        self.assertIsNone(house.settle(5))
        self.assertIsNone(house.settle(5))
        self.assertIsNone(house.settle(3))


class AnswersAtMoments(MomentCase):
    def test_all_is_empty_at_first(self):
        house = Made(*EVERY.split("\n"))
        for moment in (0, 1, 7, LAST):
            self.assertEqual(house.all_at(moment), [(moment, name, []) for name in house.every_name])

    def test_changes_at_a_moment_and_at_those_before_it(self):
        house = Made("table t 1")
        house.told(5, ("t", "1*1"))
        house.told(9, ("t", "1*1 2*1"))
        house.told(7, ("t", "3*1"))
        for moment, text in [(0, ""), (4, ""), (5, "1*1"), (6, "1*1"), (7, "1*1 3*1"), (8, "1*1 3*1"),
                             (9, "1*2 2*1 3*1"), (10, "1*2 2*1 3*1"), (LAST, "1*2 2*1 3*1")]:
            self.assertEqual(house.shown_at(moment, "t"), text)

    def test_the_first_and_the_last_moment(self):
        house = Made("table t 1", "once o t")
        self.assertEqual(house.told(LAST, ("t", "1*1")), [(LAST, "t", "1*1"), (LAST, "o", "1*1")])
        self.assertEqual(house.told(0, ("t", "1*1")),
                         [(0, "t", "1*1"), (0, "o", "1*1"), (LAST, "o", "1*-1")])
        self.assertEqual([house.shown_at(moment, "t") for moment in (0, 1, LAST - 1, LAST)],
                         ["1*1", "1*1", "1*1", "1*2"])
        self.assertEqual([house.shown_at(moment, "o") for moment in (0, 1, LAST - 1, LAST)], ["1*1"] * 4)
        house.settle(LAST)
        self.assertEqual(house.shown_at(LAST, "t"), "1*2")
        check_refused(self, TooLate, house.answer, LAST - 1, "t")
        check_refused(self, TooLate, house.take_in, LAST, [])


class Told(MomentCase):
    def test_at_its_own_moment_alone_where_nothing_comes_later(self):
        house = Made(*PATHS.split("\n"))
        self.assertEqual(house.told(3, ("edge", "1,2*1")),
                         [(3, "edge", "1,2*1"), (3, "path", "1,2*1"), (3, "ends", "1,1*1")])
        self.assertEqual(house.told(3, ("edge", "1,2*1")), [(3, "edge", "1,2*1")])

    def test_a_row_once(self):
        house = Made("table t 1", "once o t")
        house.told(5, ("t", "1*1"))
        self.assertEqual(house.told(3, ("t", "1*1")), [(3, "t", "1*1"), (3, "o", "1*1"), (5, "o", "1*-1")])
        self.assertEqual(house.told(3, ("t", "1*-1")), [(3, "t", "1*-1"), (3, "o", "1*-1"), (5, "o", "1*1")])
        self.assertEqual(house.told(3, ("t", "1*-1")), [(3, "t", "1*-1"), (5, "o", "1*-1")])

    def test_a_group(self):
        house = Made("table t 1", "count n t all", "least e t 0 all")
        house.told(5, ("t", "5*1"))
        self.assertEqual(house.told(2, ("t", "7*1")), [
            (2, "t", "7*1"), (2, "n", "1*1"), (2, "e", "7*1"), (5, "n", "1*-2 2*1"), (5, "e", "7*-1"),
        ])
        self.assertEqual(house.told(1, ("t", "3*1")), [
            (1, "t", "3*1"), (1, "n", "1*1"), (1, "e", "3*1"), (2, "n", "1*-2 2*1"), (2, "e", "7*-1"),
            (5, "n", "1*1 2*-2 3*1"), (5, "e", "5*-1 7*1"),
        ])

    def test_a_ring(self):
        house = Made(*PATHS.split("\n"))
        house.told(9, ("edge", "2,3*1"))
        self.assertEqual(house.told(4, ("edge", "1,2*1")), [
            (4, "edge", "1,2*1"), (4, "path", "1,2*1"), (4, "ends", "1,1*1"),
            (9, "path", "1,3*1"), (9, "ends", "1,1*-1 1,2*1"),
        ])
        self.assertEqual(house.told(6, ("edge", "1,3*1")), [
            (6, "edge", "1,3*1"), (6, "path", "1,3*1"), (6, "ends", "1,1*-1 1,2*1"),
            (9, "path", "1,3*-1"), (9, "ends", "1,1*1 1,2*-1"),
        ])

    def test_rows_that_ground_only_each_other_go_at_their_own_moment(self):
        house = Made("table s 1", "table d 2", "ring r 1", "rule r s 0", "rule r r d 0=0 2")
        house.told(1, ("s", "1*1"), ("d", "1,2*1 2,1*1"))
        self.assertEqual(house.told(5, ("s", "1*-1")), [(5, "s", "1*-1"), (5, "r", "1*-1 2*-1")])
        self.assertEqual(house.told(3, ("s", "2*1")), [(3, "s", "2*1"), (5, "r", "1*1 2*1")])

    def test_where_a_change_comes_among_others(self):
        house = Made("table t 1", "most m t 0 all")
        house.told(10, ("t", "1*1"))
        house.told(20, ("t", "5*1"))
        # Between two moments, at one of them, ahead of all, behind all.
        self.assertEqual(house.told(15, ("t", "3*1")),
                         [(15, "t", "3*1"), (15, "m", "1*-1 3*1"), (20, "m", "1*1 3*-1")])
        self.assertEqual(house.told(10, ("t", "4*1")),
                         [(10, "t", "4*1"), (10, "m", "1*-1 4*1"), (15, "m", "1*1 3*-1"), (20, "m", "3*1 4*-1")])
        self.assertEqual(house.told(0, ("t", "2*1")),
                         [(0, "t", "2*1"), (0, "m", "2*1"), (10, "m", "2*-1")])
        self.assertEqual(house.told(30, ("t", "9*1")), [(30, "t", "9*1"), (30, "m", "5*-1 9*1")])
        self.assertEqual(house.told(20, ("t", "5*-1")),
                         [(20, "t", "5*-1"), (20, "m", "4*1 5*-1"), (30, "m", "4*-1 5*1")])

    def test_a_change_may_be_no_change_of_any_line_at_its_own_moment(self):
        house = Made("table t 1", "table u 1", "left l t u 0=0")
        house.told(5, ("t", "1*1"))
        self.assertEqual(house.told(2, ("u", "1*1")), [(2, "u", "1*1"), (5, "l", "1*-1")])
        self.assertEqual(house.told(5, ("u", "1*-1")), [(5, "u", "1*-1"), (5, "l", "1*1")])

    def test_moments_rise_as_numbers_do(self):
        house = Made("table t 1", "once o t")
        for moment in (100, 9, 10 ** 59, 20):
            house.take_in(moment, [])
        house.told(100, ("t", "1*1"))
        house.told(10 ** 59, ("t", "1*-1 2*1"))
        self.assertEqual(house.told(9, ("t", "1*1 2*1")),
                         [(9, "t", "1*1 2*1"), (9, "o", "1*1 2*1"), (100, "o", "1*-1"), (10 ** 59, "o", "1*1 2*-1")])

    def test_what_comes_to_nothing_tells_nothing(self):
        house = Made(*EVERY.split("\n"))
        house.told(5, ("t", "1,1*1"), ("u", "1*1"))
        before = house.all_at(0, 3, 5, 7, LAST)
        for moment in (0, 3, 5, 7, LAST):
            for pairs in [[], [("t", "")], [("t", ""), ("u", ""), ("t", "")], [("t", "5,5*1"), ("t", "5,5*-1")]]:
                self.assertEqual(house.told(moment, *pairs), [])
        self.assertEqual(house.all_at(0, 3, 5, 7, LAST), before)

    def test_a_name_twice(self):
        house = Made("table t 1", "once o t")
        self.assertEqual(house.told(5, ("t", "1*1 2*1"), ("t", "1*-1 2*1")), [(5, "t", "2*2"), (5, "o", "2*1")])

    def test_turned_right_behind(self):
        house = Made(*PATHS.split("\n"))
        house.told(5, ("edge", "1,2*1 3,4*1"))
        house.told(9, ("edge", "4,5*1 1,2*-1"))
        for moment in (0, 5, 7, 9, 11):
            changes = read_changes(("edge", "2,3*1"), ("edge", "5,1*1 1,2*2"))
            before = house.all_at(0, 5, 7, 9, 11)
            told = house.take_in(moment, changes)
            self.assertNotEqual(told, [])
            again = house.take_in(moment, turned_bundle(changes))
            self.assertEqual(again, [(known, name, heap) for (known, name), heap in zip(
                [step[:2] for step in told], [heap for name, heap in turned_bundle([step[1:] for step in told])])])
            self.assertEqual(house.all_at(0, 5, 7, 9, 11), before)


class NoSuchMoment(MomentCase):
    def filled(self):
        house = Made("table t 1", "once o t")
        house.told(5, ("t", "1*1"))
        return house

    def test_of_each_deed(self):
        house = self.filled()
        before = house.all_at(0, 5, LAST)
        for thing in NO_MOMENTS:
            check_refused(self, NoMoment, house.take_in, thing, [])
            check_refused(self, NoMoment, house.take_in, thing, [("t", rows(1))])
            check_refused(self, NoMoment, house.answer, thing, "t")
            check_refused(self, NoMoment, house.settle, thing)
        self.assertEqual(house.all_at(0, 5, LAST), before)
        house.take_in(0, [])

    def test_it_goes_ahead_of_all_else(self):
        house = self.filled()
        house.settle(7)
        for thing in NO_MOMENTS:
            for changes in ([("q", [])], [("t", "no heap")], [("t", rows(401))]):
                check_refused(self, NoMoment, house.take_in, thing, changes)
            for name in ("q", None, 5):
                check_refused(self, NoMoment, house.answer, thing, name)


class Settled(MomentCase):
    def filled(self):
        house = Made("table t 1", "once o t")
        for moment in (2, 5, 8):
            house.told(moment, ("t", f"{moment}*1 1*1"))
        return house

    def test_changes_at_it_and_before_it_are_refused(self):
        house = self.filled()
        house.settle(5)
        for moment in (0, 2, 3, 4, 5):
            for changes in ([], [("t", [])], [("t", rows(1))]):
                self.check_stays(house, (5, 6, 8, LAST), TooLate, moment, changes)
        self.assertEqual(house.told(6, ("t", "1*-2")),
                         [(6, "t", "1*-2"), (6, "o", "1*-1"), (8, "o", "1*1")])

    def test_answers_before_it_are_refused_all_others_stay(self):
        house = self.filled()
        before = house.all_at(5, 6, 7, 8, 9, LAST)
        house.settle(5)
        self.assertEqual(house.all_at(5, 6, 7, 8, 9, LAST), before)
        for moment in (0, 1, 2, 3, 4):
            for name in ("t", "o"):
                check_refused(self, TooLate, house.answer, moment, name)

    def test_a_moment_without_changes(self):
        house = self.filled()
        before = house.all_at(7, 8, LAST)
        house.settle(7)
        self.assertEqual(house.all_at(7, 8, LAST), before)
        check_refused(self, TooLate, house.answer, 6, "t")
        check_refused(self, TooLate, house.take_in, 7, [])
        house.settle(LAST - 1)
        self.assertEqual(house.all_at(LAST), before[-2:])
        check_refused(self, TooLate, house.answer, 8, "t")

    def test_a_settled_one_again_does_nothing(self):
        house = self.filled()
        house.settle(5)
        before = house.all_at(5, 6, 8)
        for moment in (5, 5, 4, 2, 0, 3):
            house.settle(moment)
            self.assertEqual(house.all_at(5, 6, 8), before)
            check_refused(self, TooLate, house.answer, 4, "t")
            check_refused(self, TooLate, house.take_in, 5, [])
        house.take_in(6, [])

    def test_the_moment_0(self):
        house = self.filled()
        house.settle(0)
        check_refused(self, TooLate, house.take_in, 0, [])
        self.assertEqual(house.shown_at(0, "t"), "")
        house.told(1, ("t", "9*1"))
        self.assertEqual(house.shown_at(1, "t"), "9*1")

    def test_a_house_without_changes(self):
        house = Made("table t 1")
        house.settle(9)
        check_refused(self, TooLate, house.answer, 8, "t")
        self.assertEqual(house.shown_at(9, "t"), "")
        self.assertEqual(house.told(10, ("t", "1*1")), [(10, "t", "1*1")])

    def test_settled_one_behind_another(self):
        house, other = self.filled(), self.filled()
        for moment in (1, 2, 3, 5, 6):
            house.settle(moment)
        other.settle(6)
        self.assertEqual(house.all_at(6, 7, 8, 9), other.all_at(6, 7, 8, 9))
        self.assertEqual(house.told(7, ("t", "2*-1")), other.told(7, ("t", "2*-1")))
        self.assertEqual(house.all_at(6, 7, 8, 9), other.all_at(6, 7, 8, 9))

    def test_too_late_goes_ahead_of_names_heaps_and_too_much(self):
        house = self.filled()
        house.settle(5)
        for changes in ([("q", [])], [("t", "no heap")], [("o", [])], [("t", rows(401))]):
            for moment in (0, 5):
                check_refused(self, TooLate, house.take_in, moment, changes)
        for name in ("q", "", None, 5, ["t"]):
            check_refused(self, TooLate, house.answer, 4, name)
            check_refused(self, NoName, house.answer, 5, name)


class NamesAndHeaps(MomentCase):
    def filled(self):
        house = Made("table t 2", "table u 1", "once o t")
        house.told(5, ("t", "1,1*1"), ("u", "1*1"))
        return house

    def test_changes(self):
        house = self.filled()
        wide = [((1, 2, 3), 1)]
        for refusal, changes in [
            (NoName, [("q", [])]), (NoName, [("o", [])]), (NoName, [("", [])]), (NoName, [(None, [])]),
            (NoName, [(["t"], [])]), (NoName, [("q", wide), ("t", wide)]), (NoHeap, [("t", wide), ("q", wide)]),
            (NoHeap, [("t", [((1, 1), 1)]), ("u", [((1, 1), 1)])]), (NoHeap, [("t", [((1, True), 1)])]),
            (NoHeap, [("t", [((1, 1), 0)])]), (NoHeap, [("t", "1,1*1")]), (NoName, [("t", [((1, 1), 1)]), ("q", [])]),
        ]:
            for moment in (0, 5, 7):
                self.check_stays(house, (0, 5, 7), refusal, moment, changes)
        for thing in wrong_things():
            if thing != [] if isinstance(thing, list) else True:
                check_refused(self, NoHeap, house.take_in, 5, [("t", thing)])
            if not isinstance(thing, str):
                check_refused(self, NoName, house.take_in, 5, [(thing, [])])

    def test_they_go_ahead_of_too_much(self):
        house = self.filled()
        great = ("u", rows(401))
        for changes in ([great, ("q", [])], [("q", []), great]):
            self.check_stays(house, (0, 5, 7), NoName, 5, changes)
        for changes in ([great, ("t", rows(1))], [("t", rows(1)), great]):
            self.check_stays(house, (0, 5, 7), NoHeap, 5, changes)
        for moment in range(10, 25):
            house.take_in(moment, [])
        self.check_stays(house, (0, 5, 7), TooMuch, 30, [])
        self.check_stays(house, (0, 5, 7), NoName, 30, [("q", [])])
        self.check_stays(house, (0, 5, 7), NoHeap, 30, [("t", rows(1))])

    def test_answers(self):
        house = self.filled()
        for name in ["", "q", "T", "t ", "rule"] + [thing for thing in wrong_things() if not isinstance(thing, str)]:
            for moment in (0, 5, LAST):
                check_refused(self, NoName, house.answer, moment, name)


class TooGreat(MomentCase):
    def test_at_its_own_moment(self):
        house = Made("table t 1")
        house.take_in(5, [("t", rows(400))])
        self.check_stays(house, (0, 4, 5, 6), TooMuch, 5, [("t", rows(1, 400))])
        self.check_stays(house, (0, 4, 5, 6), TooMuch, 6, [("t", rows(1, 400))])
        self.check_stays(house, (0, 4, 5, 6), TooMuch, 0, [("t", rows(401))])

    def test_at_a_later_moment_alone(self):
        house = Made("table t 1")
        house.take_in(5, [("t", rows(300))])
        house.take_in(3, [("t", rows(100, 300))])
        self.assertEqual(len(house.answer(5, "t")), 400)
        for moment in (0, 3, 4):
            self.check_stays(house, (0, 3, 4, 5, 6), TooMuch, moment, [("t", rows(1, 400))])
        house.take_in(9, [("t", rows(1, 0, -1))])
        self.check_stays(house, (0, 3, 4, 5, 6, 9), TooMuch, 4, [("t", rows(1, 400))])
        house.take_in(5, [("t", rows(1, 1, -1))])
        self.check_stays(house, (0, 3, 4, 5, 6, 9), TooMuch, 4, [("t", rows(2, 400))])
        house.take_in(4, [("t", rows(1, 400))])

    def test_at_an_earlier_moment_alone(self):
        house = Made("table t 1", "count n t all")
        house.take_in(9, [("t", rows(300, 0, -1))])
        self.check_stays(house, (0, 5, 8, 9), TooMuch, 5, [("t", rows(401))])
        house.take_in(5, [("t", rows(400))])
        self.assertEqual(house.answer(9, "t"), rows(100, 300))
        self.check_stays(house, (0, 5, 8, 9), TooMuch, 5, [("t", rows(1, 400))])
        self.check_stays(house, (0, 5, 8, 9), TooMuch, 8, [("t", rows(1, 400))])
        house.take_in(9, [("t", rows(1, 400))])

    def test_at_a_moment_in_the_middle_alone(self):
        house = Made("table t 1")
        house.take_in(5, [("t", rows(400))])
        house.take_in(7, [("t", rows(400, 0, -1))])
        self.check_stays(house, (0, 3, 5, 6, 7), TooMuch, 3, [("t", rows(1, 400))])
        house.take_in(7, [("t", rows(1, 400))])

    def test_pairs_that_meet_and_grounds_and_figures(self):
        for lines in (["table t 1", "join j t t all"], ["table t 1", "ring r 1", "rule r t t all 0"]):
            house = Made(*lines)
            house.take_in(5, [("t", rows(9))])
            house.take_in(3, [("t", rows(11, 9))])
            self.check_stays(house, (0, 3, 5), TooMuch, 1, [("t", rows(1, 20))])
            self.check_stays(house, (0, 3, 5), TooMuch, 5, [("t", rows(1, 20))])
            house.take_in(5, [("t", rows(1, 0, -1))])
            house.take_in(1, [("t", rows(1, 20))])
        house = Made("table t 1")
        house.take_in(5, [("t", [((1,), LAST)])])
        self.check_stays(house, (0, 3, 5), TooMuch, 3, [("t", [((1,), 1)])])
        house.take_in(3, [("t", [((1,), -1)])])

    def test_what_is_settled_is_counted_still(self):
        house = Made("table t 1")
        house.take_in(3, [("t", rows(400))])
        house.settle(4)
        self.check_stays(house, (4, 5, 9), TooMuch, 9, [("t", rows(1, 400))])
        house.take_in(9, [("t", rows(1, 0, -1))])
        self.check_stays(house, (4, 5, 9), TooMuch, 8, [("t", rows(1, 400))])
        house.take_in(9, [("t", rows(1, 400))])

    def test_a_refused_bundle_is_no_first_one(self):
        house = Made("table t 1")
        for moment in range(15):
            house.take_in(moment, [])
        for moment in range(100, 120):
            check_refused(self, TooMuch, house.take_in, moment, [("t", rows(401))])
            check_refused(self, NoName, house.take_in, moment, [("q", [])])
            check_refused(self, NoHeap, house.take_in, moment, [("t", None)])
        house.take_in(200, [])
        check_refused(self, TooMuch, house.take_in, 201, [])


class Sixteen(MomentCase):
    EMPTY = [[], [("t", [])], [("t", []), ("t", [])], [("t", rows(1)), ("t", rows(1, 0, -1))], [("t", rows(1))]]

    def full(self, changes):
        house = Made("table t 1")
        for moment in range(10, 170, 10):
            house.take_in(moment, changes)
        return house

    def test_a_seventeenth_moment_is_refused_the_sixteen_are_not(self):
        for changes in self.EMPTY:
            house = self.full(changes)
            for more in self.EMPTY:
                for moment in (0, 5, 11, 155, 161, LAST):
                    self.check_stays(house, (0, 10, 160, LAST), TooMuch, moment, more)
                for moment in range(10, 170, 10):
                    house.take_in(moment, more)

    def test_of_a_book_without_tables(self):
        house = Made("ring r 1")
        for moment in range(16):
            self.assertEqual(house.take_in(moment, []), [])
        check_refused(self, TooMuch, house.take_in, 16, [])
        check_refused(self, NoName, house.take_in, 16, [("r", [])])

    def test_what_was_taken_back_counts(self):
        house = self.full([("t", rows(3))])
        for moment in range(10, 170, 10):
            house.take_in(moment, [("t", rows(3, 0, -1))])
        self.assertEqual(house.all_at(0, 10, 160, LAST), [(moment, "t", []) for moment in (0, 10, 160, LAST)])
        for changes in self.EMPTY:
            self.check_stays(house, (0, 10, 160, LAST), TooMuch, 5, changes)

    def test_behind_a_settling(self):
        for changes in self.EMPTY:
            house = self.full(changes)
            house.settle(9)
            self.check_stays(house, (10, 160), TooMuch, 11, [])
            house.settle(10)
            house.take_in(11, changes)
            self.check_stays(house, (10, 160), TooMuch, 12, [])
            house.settle(35)
            for moment in (36, 37, 38):
                house.take_in(moment, [])
            self.check_stays(house, (35, 160), TooMuch, 39, [])
            house.settle(LAST - 20)
            for moment in range(LAST - 19, LAST - 3):
                house.take_in(moment, changes)
            self.check_stays(house, (LAST - 20, LAST), TooMuch, LAST, [])

    def test_a_moment_to_which_many_bundles_come_is_one(self):
        house = Made("table t 1")
        for moment in list(range(15)) * 3:
            house.take_in(moment, [("t", rows(1))])
        house.take_in(99, [])
        check_refused(self, TooMuch, house.take_in, 98, [])

    def test_answers_and_settlings_are_no_changes(self):
        house = Made("table t 1")
        for moment in range(50):
            house.answer(moment, "t")
            house.settle(0)
        for moment in range(1, 17):
            house.take_in(moment, [])
        check_refused(self, TooMuch, house.take_in, 17, [])


class Random(MomentCase):
    TIMES = [0, 1, 2, 3, 4, 5, 7, 9, 12, LAST - 1, LAST]

    def step(self, source, house, other, book):
        """One deed of both houses, which must come to the same; told is what was told of changes, else nothing."""
        deed = source.choice(["in"] * 8 + ["ask"] * 3 + ["settle"] * (source.randint(0, 3) == 0))
        moment = source.choice(self.TIMES) if source.randint(0, 20) else source.choice(NO_MOMENTS)
        if deed == "in":
            changes = random_bundle(source, book, source.choice([2, 3, 6]))
            if not source.randint(0, 12):
                changes.insert(source.randint(0, len(changes)), (source.choice(names_in(book) + ["q"]), [((1,), 1)]))
            told = told_or_refusal(house.take_in, moment, changes)
            self.assertEqual(told, other.take_in(moment, changes))
            return told if isinstance(told, list) else []
        if deed == "ask":
            name = source.choice(names_in(book) * 4 + ["q", None])
            self.assertEqual(told_or_refusal(house.answer, moment, name), other.answer(moment, name))
        else:
            moment = source.choice([moment, 0, 1, 2])
            self.assertEqual(told_or_refusal(house.settle, moment), other.settle(moment))
        return []

    def test_against_a_house_that_asks_all_anew(self):
        for source in seeds(160):
            book = small_books(source, source.choice([4, 8, 14]))
            house, other = Moments(book), Reckoned(book)
            told = []
            for turn in range(source.choice([6, 14])):
                told += self.step(source, house, other, book)
            for moment in [known for known in self.TIMES if known >= other.settled]:
                for name in names_in(book):
                    self.assertEqual(house.answer(moment, name), other.answer(moment, name))
                    self.assertEqual(told_by_name(told, name, moment), other.answer(moment, name))

    def runs(self, count, text=None):
        for source in seeds(count):
            book = read_book(text) if text else small_books(source, 12)
            house, told, taken = Moments(book), [], []
            for turn in range(8):
                moment, changes = source.choice(self.TIMES), random_bundle(source, book)
                step = told_or_refusal(house.take_in, moment, changes)
                if step is not TooMuch:
                    told += step
                    taken.append((moment, changes))
            yield source, book, house, told, taken

    def test_what_was_told_up_to_a_moment_is_what_answers_tells_of_the_tables_then(self):
        for text in (EVERY, PATHS, None):
            for source, book, house, told, taken in self.runs(30, text):
                for moment in self.TIMES:
                    changes = [pair for known, pairs in taken if known <= moment for pair in pairs]
                    anew = answers(book, changes)
                    self.assertEqual([(name, told_by_name(told, name, moment)) for name in names_in(book)], anew)
                    self.assertEqual([(name, house.answer(moment, name)) for name in names_in(book)], anew)

    def test_settling_on_the_way_changes_nothing_of_what_is_told(self):
        for source, book, house, told, taken in self.runs(30, EVERY):
            plain, settling = Moments(book), Moments(book)
            for turn, (moment, changes) in enumerate(sorted(taken, key=lambda pair: pair[0])):
                ahead = max([known for known, pairs in taken if known < moment], default=None)
                if ahead is not None:
                    settling.settle(ahead)
                self.assertEqual(settling.take_in(moment, changes), plain.take_in(moment, changes))
                for later in [known for known in self.TIMES if known >= moment]:
                    for name in names_in(book):
                        self.assertEqual(settling.answer(later, name), plain.answer(later, name))

    def test_other_orders_and_other_bundles_end_alike(self):
        for text in (EVERY, None):
            for source, book, house, told, taken in self.runs(25, text):
                other, steps = Moments(book), []
                for moment, changes in cut_bundles(source, taken):
                    steps.append(told_or_refusal(other.take_in, moment, changes))
                if TooMuch in steps:
                    continue
                again = [step for part in steps for step in part]
                for moment in self.TIMES:
                    for name in names_in(book):
                        self.assertEqual(other.answer(moment, name), house.answer(moment, name))
                        self.assertEqual(told_by_name(again, name, moment), told_by_name(told, name, moment))

    def test_every_order_of_a_few(self):
        bundles = [(5, read_changes(("edge", "1,2*1"))), (3, read_changes(("edge", "2,3*1"))),
                   (5, read_changes(("edge", "2,3*-1"))), (8, read_changes(("edge", "3,1*1 2,3*1")))]
        ends = []
        for order in itertools.permutations(bundles):
            house = Made(*PATHS.split("\n"))
            for moment, changes in order:
                house.take_in(moment, changes)
            ends.append(house.all_at(*range(10)))
        self.assertEqual([end for end in ends if end != ends[0]], [])

    def test_all_taken_back_leads_to_just_what_was_before(self):
        for source, book, house, told, taken in self.runs(30):
            source.shuffle(taken)
            steps = [told_or_refusal(house.take_in, moment, turned_bundle(changes)) for moment, changes in taken]
            if TooMuch not in steps:
                again = told + [step for part in steps for step in part]
                for moment in self.TIMES:
                    for name in names_in(book):
                        self.assertEqual(house.answer(moment, name), [])
                        self.assertEqual(told_by_name(again, name, moment), [])

    def test_at_one_moment_it_tells_what_a_live_house_tells(self):
        for source in seeds(30):
            book = small_books(source, 12)
            house, live = Moments(book), Live(book)
            for turn in range(5):
                changes = random_bundle(source, book)
                told = told_or_refusal(live.take_in, changes)
                step = told_or_refusal(house.take_in, 7, changes)
                self.assertEqual(step, told if told is TooMuch else [(7, name, heap) for name, heap in told])

    def test_the_told_kinds(self):
        for source, book, house, told, taken in self.runs(40):
            widths = booked.widths_of(book)
            for step in told:
                self.assertIs(type(step), tuple)
                self.assertEqual(len(step), 3)
                self.assertIs(type(step[0]), int)
                self.assertIs(type(step[1]), str)
                self.assertNotEqual(step[2], [])
                check_plain_heap(self, step[2], widths[step[1]])
            moment, changes = taken[-1]
            step = told_or_refusal(house.take_in, moment, changes)
            self.assertIn(type(step), (list, type))
            order = [(known, names_in(book).index(name)) for known, name, heap in step] if step is not TooMuch else []
            self.assertEqual(order, sorted(set(order)))
            for name in names_in(book):
                check_plain_heap(self, house.answer(9, name), widths[name])


class AskersOwn(MomentCase):
    CHANGES = [("t", "1,1*1 1,2*1 2,-3*-1"), ("u", "1*1"), ("u", "2*1")]
    TIMES = (5, 3, 9, 5, 0)

    def test_nothing_that_is_handed_in_is_changed(self):
        for source in seeds(30):
            book = small_books(source)
            house, before = Moments(book), copied(book)
            for turn in range(5):
                changes = random_bundle(source, book)
                handed = copied(changes)
                told_or_refusal(house.take_in, source.randint(0, 5), handed)
                self.assertEqual(handed, changes)
            self.assertEqual(book, before)

    def test_nothing_done_to_what_was_handed_in_changes_the_house(self):
        book = read_book(EVERY)
        house, other = Moments(book), Made(*EVERY.split("\n"))
        spoiled(book)
        for moment in self.TIMES:
            changes = read_changes(*self.CHANGES)
            self.assertEqual(house.take_in(moment, changes), other.take_in(moment, read_changes(*self.CHANGES)))
            spoiled(changes)
            for known, name, heap in other.all_at(0, 3, 5, 9):
                self.assertEqual(house.answer(known, name), heap)

    def test_nothing_done_to_what_was_told_changes_the_house(self):
        house, other = Made(*EVERY.split("\n")), Made(*EVERY.split("\n"))
        for moment in self.TIMES:
            spoiled(house.all_at(0, 3, 5, 9))
            told = other.take_in(moment, read_changes(*self.CHANGES))
            mine = house.take_in(moment, read_changes(*self.CHANGES))
            self.assertEqual(mine, told)
            spoiled(mine)
            self.assertEqual(house.all_at(0, 3, 5, 9), other.all_at(0, 3, 5, 9))
        spoiled(house.all_at(3, 5, 9))
        house.settle(3)
        other.settle(3)
        spoiled(house.all_at(3, 5, 9))
        self.assertEqual(house.all_at(3, 5, 9), other.all_at(3, 5, 9))

    def test_what_was_told_stays(self):
        house = Made(*EVERY.split("\n"))
        kept = []
        for moment in self.TIMES:
            told = [house.take_in(moment, read_changes(*self.CHANGES)), house.all_at(0, 3, 5, 9)]
            kept.append((told, copied(told)))
            spoiled(house.all_at(0, 3, 5, 9))
            house.take_in(moment, read_changes(("t", "1,1*1"), ("u", "7*1")))
            for now, before in kept:
                self.assertEqual(now, before)
        house.settle(9)
        for now, before in kept:
            self.assertEqual(now, before)

    def test_two_houses_of_one_book(self):
        book = read_book(PATHS)
        house, other = Moments(book), Moments(book)
        house.take_in(3, read_changes(("edge", "1,2*1")))
        house.settle(5)
        self.assertEqual(other.answer(3, "path"), [])
        self.assertEqual(shown(other.take_in(1, read_changes(("edge", "5,6*1"))))[1], (1, "path", "5,6*1"))

    def test_no_two_told_heaps_are_one_list(self):
        house = Made(*EVERY.split("\n"))
        told = []
        for moment in self.TIMES:
            changes = read_changes(*self.CHANGES)
            told += [heap for known, name, heap in house.take_in(moment, changes)] + [heap for name, heap in changes]
        told += [heap for known, name, heap in house.all_at(0, 3, 5, 9) + house.all_at(0, 1, 3, 5, 9)]
        self.assertEqual(len({id(heap) for heap in told}), len(told))


if __name__ == "__main__":
    unittest.main()
