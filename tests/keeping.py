"""What is asked of every keeper alike: promises 11 and 12, and what 2, 3, 5 and 6 say of keepers."""

import collections

from samples import GREAT, check_plain_heap, random_heap, seeds


class Kept:
    """A keeper's make, the widths of what it is handed, and its answer reckoned anew of the sums of all changes."""

    def __init__(self, name, make, widths, answer, width):
        self.name = name
        self.make = make
        self.widths = widths
        self.answer = answer
        self.width = width

    def empty(self):
        return tuple([] for width in self.widths)

    def random_changes(self, source, count, size=4):
        return [tuple(random_heap(source, width, source.randint(0, size)) for width in self.widths)
                for turn in range(count)]


def summed_up(heaps):
    sums = collections.Counter()
    for heap in heaps:
        for row, weight in heap:
            sums[row] += weight
    return sorted((row, weight) for row, weight in sums.items() if weight)


def turned(heap):
    return [(row, -weight) for row, weight in heap]


def turned_all(change):
    return tuple(turned(heap) for heap in change)


def sums_of(changes):
    """The sums of all changes, one for each heap that a change hands in."""
    return [summed_up(heaps) for heaps in zip(*changes)]


def told_by(keeper, changes):
    return [keeper.change(*change) for change in changes]


def made_great(change):
    return tuple([(tuple(number * GREAT for number in row), weight * GREAT) for row, weight in heap]
                 for heap in change)


def cut_anew(source, kept, changes):
    """The same rows and weights, the weights cut in two, in another order and in other bundles."""
    pieces = []
    for change in changes:
        for side, heap in enumerate(change):
            for row, weight in heap:
                cut = source.randint(-2, 2)
                pieces += [(side, row, cut), (side, row, weight - cut)]
    source.shuffle(pieces)
    bundles = [[] for turn in range(source.randint(1, 9))]
    for piece in pieces:
        source.choice(bundles).append(piece)
    return [
        tuple(summed_up([[(row, weight) for known, row, weight in bundle if known == side]])
              for side in range(len(kept.widths)))
        for bundle in bundles
    ]


class KeeperChecks:
    """Mixed into a TestCase that has `kept`, a list of Kept."""

    def each(self, count=20):
        return [(kept, source) for kept in self.kept for source in seeds(count)]

    def check_follows(self, kept, changes):
        keeper = kept.make()
        before = kept.answer(*kept.empty())
        self.assertEqual(before, [])
        for turn, change in enumerate(changes):
            told = keeper.change(*change)
            now = kept.answer(*sums_of(changes[:turn + 1]))
            self.assertEqual(told, summed_up([now, turned(before)]))
            check_plain_heap(self, told, kept.width)
            before = now

    def test_behind_each_change_the_answer_asked_anew(self):
        for kept, source in self.each():
            with self.subTest(keeper=kept.name):
                self.check_follows(kept, kept.random_changes(source, 12))

    def test_great_numbers(self):
        for kept, source in self.each(5):
            with self.subTest(keeper=kept.name):
                self.check_follows(kept, [made_great(change) for change in kept.random_changes(source, 8)])

    def test_empty_changes_tell_nothing(self):
        for kept, source in self.each(5):
            with self.subTest(keeper=kept.name):
                keeper = kept.make()
                for change in [kept.empty()] + kept.random_changes(source, 6):
                    keeper.change(*change)
                    self.assertEqual(keeper.change(*kept.empty()), [])

    def test_a_change_turned_tells_the_told_change_turned(self):
        for kept, source in self.each():
            with self.subTest(keeper=kept.name):
                keeper = kept.make()
                for change in kept.random_changes(source, 10):
                    told = keeper.change(*change)
                    self.assertEqual(keeper.change(*turned_all(change)), turned(told))
                    self.assertEqual(keeper.change(*change), told)

    def test_all_taken_back_leads_to_the_beginning(self):
        for kept, source in self.each():
            with self.subTest(keeper=kept.name):
                keeper = kept.make()
                changes = kept.random_changes(source, 8)
                told = told_by(keeper, changes)
                back = told_by(keeper, [turned_all(change) for change in reversed(changes)])
                self.assertEqual(back, [turned(heap) for heap in reversed(told)])
                self.assertEqual(told_by(keeper, changes), told)

    def test_changes_cut_and_laid_together_come_to_the_same_sum(self):
        for kept, source in self.each():
            with self.subTest(keeper=kept.name):
                changes = kept.random_changes(source, 8)
                whole = kept.answer(*sums_of(changes))
                for cut in [changes, [sums_of(changes)], changes[::-1], cut_anew(source, kept, changes)]:
                    self.assertEqual(summed_up(told_by(kept.make(), cut)), whole)

    def test_nothing_handed_in_is_changed(self):
        for kept, source in self.each(5):
            with self.subTest(keeper=kept.name):
                keeper = kept.make()
                for change in kept.random_changes(source, 8):
                    copy = tuple(list(heap) for heap in change)
                    keeper.change(*change)
                    self.assertEqual(change, copy)

    def test_a_keeper_is_not_changed_through_what_was_handed_in_or_told(self):
        for kept, source in self.each(8):
            with self.subTest(keeper=kept.name):
                keeper = kept.make()
                changes = kept.random_changes(source, 10)
                expected = told_by(kept.make(), changes)
                for change, told in zip(changes, expected):
                    handed = [list(heap) for heap in change]
                    answer = keeper.change(*handed)
                    self.assertEqual(answer, told)
                    for heap in handed + [answer]:
                        heap.clear()
                        heap.append("changed")

    def test_what_was_told_stays(self):
        for kept, source in self.each(8):
            with self.subTest(keeper=kept.name):
                keeper = kept.make()
                told, copies = [], []
                for change in kept.random_changes(source, 10):
                    handed = [list(heap) for heap in change]
                    told.append(keeper.change(*handed))
                    copies.append(list(told[-1]))
                    for heap in handed:
                        heap.clear()
                    self.assertEqual(told, copies)
                for turn in range(len(told)):
                    told[turn].append("changed")
                    self.assertEqual(told[turn + 1:], copies[turn + 1:])

    def test_two_keepers_know_nothing_of_each_other(self):
        for kept, source in self.each(8):
            with self.subTest(keeper=kept.name):
                here, there = kept.random_changes(source, 8), kept.random_changes(source, 8)
                alone = [told_by(kept.make(), here), told_by(kept.make(), there)]
                keepers = kept.make(), kept.make()
                beside = [[], []]
                for one, other in zip(here, there):
                    beside[0].append(keepers[0].change(*one))
                    beside[1].append(keepers[1].change(*other))
                self.assertEqual(beside, alone)
