"""Knots, which keep the standstill while changes come: promises 18 and 19, and what 2, 3, 5 and 6 say of them."""

import inspect
import random
import unittest

import ringed
from deltahouse.errors import TooMuch
from deltahouse.knots import Knot
from keeping import summed_up, turned
from ringed import GIVEN, PATHS, RINGS, ROUND, WIDTHS_OF, chain, copied, lone, spoiled, steps_round
from samples import GREAT, check_plain_heap, check_refused, random_heap, seeds


def there(rows, weight=1):
    return [(row, weight) for row in sorted(rows)]


def numbers(count, start=0):
    return [(number,) for number in range(start, start + count)]


def turned_change(changes):
    return [(name, turned(heap)) for name, heap in changes]


def difference(now, before):
    """What 18 tells: for rings whose rows have changed, rows that came and rows that went."""
    table = dict(before)
    told = []
    for ring, rows in now:
        moved = [(row, 1) for row in rows if row not in table[ring]]
        moved += [(row, -1) for row in table[ring] if row not in rows]
        if moved:
            told.append((ring, sorted(moved)))
    return told


def added(sums, changes):
    """The sums of all changes by names, as they are behind these changes."""
    now = dict(sums)
    for name, heap in changes:
        now[name] = summed_up([now.get(name, []), heap])
    return now


def random_changes(source, size=3):
    names = source.sample(GIVEN + ["other"], source.randint(0, 4))
    return [(name, random_heap(source, WIDTHS_OF.get(name, 2), source.randint(0, size))) for name in names]


def random_row_of_changes(source, count=12):
    return [random_changes(source, source.choice([3, 12, 40])) for turn in range(count)]


class Followed:
    """A knot beside its standstill asked anew of all changes summed up."""

    def __init__(self, case, rings, rules):
        self.case = case
        self.rings = rings
        self.rules = rules
        self.knot = Knot(rings, rules)
        self.sums = {}
        self.still = [(ring, []) for ring in rings]
        self.check_rows()

    def check_rows(self):
        for ring, rows in self.still:
            self.case.assertEqual(self.knot.rows_of(ring), rows)

    def change(self, changes):
        """What was told, or None where it was refused; both looked into."""
        sums = added(self.sums, changes)
        still = ringed.still_or_none(self.rings, self.rules, ringed.rows_there(sums))
        if still is None:
            check_refused(self.case, TooMuch, self.knot.change, changes)
            self.check_rows()
            return None
        told = self.knot.change(changes)
        self.case.assertEqual(told, difference(still, self.still))
        self.sums, self.still = sums, still
        self.check_kinds(told)
        self.check_rows()
        return told

    def check_kinds(self, told):
        self.case.assertIs(type(told), list)
        for entry in told:
            self.case.assertIs(type(entry), tuple)
            ring, heap = entry
            self.case.assertNotEqual(heap, [])
            check_plain_heap(self.case, heap, len(heap[0][0]))
            self.case.assertTrue({weight for row, weight in heap} <= {1, -1})


class Interface(unittest.TestCase):
    def test_names_and_arguments(self):
        self.assertEqual(list(inspect.signature(Knot).parameters), ["rings", "rules"])
        self.assertEqual(list(inspect.signature(Knot.change).parameters), ["self", "changes"])
        self.assertEqual(list(inspect.signature(Knot.rows_of).parameters), ["self", "ring"])


class Changes(unittest.TestCase):
    def test_it_begins_with_no_rows(self):
        knot = Knot(["path", "s"], PATHS)
        self.assertEqual(knot.rows_of("path"), [])
        self.assertEqual(knot.rows_of("s"), [])
        self.assertIs(type(knot.rows_of("s")), list)

    def test_rows_that_came_and_rows_that_went(self):
        knot = Knot(["path"], PATHS)
        self.assertEqual(knot.change([("edge", [((0, 1), 1), ((1, 2), 1)])]),
                         [("path", [((0, 1), 1), ((0, 2), 1), ((1, 2), 1)])])
        self.assertEqual(knot.rows_of("path"), [(0, 1), (0, 2), (1, 2)])
        self.assertEqual(knot.change([("edge", [((1, 2), -1), ((1, 3), 1)])]),
                         [("path", [((0, 2), -1), ((0, 3), 1), ((1, 2), -1), ((1, 3), 1)])])
        self.assertEqual(knot.rows_of("path"), [(0, 1), (0, 3), (1, 3)])

    def test_in_the_order_of_the_rings_and_only_for_those_that_have_changed(self):
        rules = [("rule", "a", ("x",), (), (0,)), ("rule", "b", ("y",), (), (0,)),
                 ("rule", "c", ("x", "y"), (), (0, 1))]
        knot = Knot(["c", "d", "b", "a"], rules)
        self.assertEqual(knot.change([("x", [((1,), 1)])]), [("a", [((1,), 1)])])
        self.assertEqual(knot.change([("y", [((2,), 1)])]), [("c", [((1, 2), 1)]), ("b", [((2,), 1)])])
        self.assertEqual(knot.change([("y", [((2,), -1), ((3,), 1)]), ("x", [((1,), -1)])]),
                         [("c", [((1, 2), -1)]), ("b", [((2,), -1), ((3,), 1)]), ("a", [((1,), -1)])])
        self.assertEqual(knot.rows_of("d"), [])

    def test_of_how_great_a_weight_is_not_asked(self):
        followed = Followed(self, ["r"], [("rule", "r", ("a",), (), (0,))])
        self.assertEqual(followed.change([("a", [((1,), 5), ((2,), -2)])]), [("r", [((1,), 1)])])
        self.assertEqual(followed.change([("a", [((1,), -4), ((2,), 2)])]), [])
        self.assertEqual(followed.change([("a", [((1,), GREAT), ((2,), 1)])]), [("r", [((2,), 1)])])
        self.assertEqual(followed.change([("a", [((1,), -GREAT - 1), ((2,), -3)])]), [("r", [((1,), -1), ((2,), -1)])])
        self.assertEqual(followed.change([("a", [((1,), -1), ((2,), 2)])]), [])
        self.assertEqual(followed.change([("a", [((1,), 1), ((2,), 1)])]), [("r", [((2,), 1)])])
        self.assertEqual(followed.change([("a", [((1,), 1)])]), [("r", [((1,), 1)])])

    def test_a_row_stays_while_it_has_another_ground(self):
        rules = [("rule", "r", ("a",), (), (0,)), ("rule", "r", ("b",), (), (0,))]
        followed = Followed(self, ["r"], rules)
        self.assertEqual(followed.change([("a", [((1, 1), 1), ((1, 2), 1)]), ("b", [((1,), 7)])]), [("r", [((1,), 1)])])
        self.assertEqual(followed.change([("a", [((1, 1), -1)])]), [])
        self.assertEqual(followed.change([("b", [((1,), -7)])]), [])
        self.assertEqual(followed.change([("a", [((1, 2), -1)])]), [("r", [((1,), -1)])])

    def test_names_that_no_rule_asks_over_are_passed_over(self):
        knot = Knot(["r"], [("rule", "r", ("a",), (), (0,))])
        self.assertEqual(knot.change([("b", [((1,), 1)])]), [])
        self.assertEqual(knot.change([("b", there(numbers(1000))), ("a", [((1,), 1)]), ("c", [])]),
                         [("r", [((1,), 1)])])
        self.assertEqual(knot.change([("b", [((1,), -1)]), ("c", [((9, 9), 1)])]), [])
        self.assertEqual(knot.rows_of("r"), [(1,)])

    def test_empty_changes_and_empty_heaps(self):
        for knot in [Knot(["path"], PATHS), Knot(["r", "s"], []), Knot([], [])]:
            for changes in [[], [("edge", [])], [("other", [])], [("edge", []), ("other", [])]]:
                self.assertEqual(knot.change(changes), [])
        knot = Knot(["path"], PATHS)
        knot.change([("edge", there(chain(3)))])
        self.assertEqual(knot.change([]), [])
        self.assertEqual(knot.change([("edge", [])]), [])
        self.assertEqual(len(knot.rows_of("path")), 6)

    def test_a_knot_without_rules(self):
        knot = Knot(["r"], [])
        self.assertEqual(knot.change([("a", [((1,), 1)])]), [])
        self.assertEqual(knot.rows_of("r"), [])

    def test_great_numbers_and_wide_rows(self):
        one, other = (GREAT,) * 8, (-GREAT,) * 8
        followed = Followed(self, ["r"], [("rule", "r", ("a", "b"), (), (0, 8, 7, 15))])
        followed.change([("a", [(one, GREAT)])])
        self.assertEqual(followed.change([("b", [(other, GREAT)])]), [("r", [((GREAT, -GREAT, GREAT, -GREAT), 1)])])
        self.assertEqual(followed.change([("a", [(one, -GREAT)])]), [("r", [((GREAT, -GREAT, GREAT, -GREAT), -1)])])


class RowsThatGroundEachOther(unittest.TestCase):
    def test_a_ring_falls_together(self):
        followed = Followed(self, ["r"], ROUND)
        self.assertEqual(followed.change([("step", there(steps_round(60)))]), [])
        self.assertEqual(followed.change([("in", [((17,), 1)])]), [("r", there(numbers(60)))])
        self.assertEqual(followed.change([("in", [((17,), -1)])]), [("r", there(numbers(60), -1))])
        self.assertEqual(followed.change([("in", [((3,), 1)])]), [("r", there(numbers(60)))])

    def test_with_a_second_entry_it_stands_until_both_are_gone(self):
        followed = Followed(self, ["r"], ROUND)
        followed.change([("step", there(steps_round(60))), ("in", there([(17,), (40,)]))])
        self.assertEqual(followed.change([("in", [((17,), -1)])]), [])
        self.assertEqual(followed.change([("in", [((40,), -1), ((41,), 1)])]), [])
        self.assertEqual(followed.change([("in", [((41,), -1)])]), [("r", there(numbers(60), -1))])

    def test_a_round_cut_open(self):
        followed = Followed(self, ["r"], ROUND)
        followed.change([("step", there(steps_round(60))), ("in", there([(10,)]))])
        self.assertEqual(followed.change([("step", [((29, 30), -1)])]),
                         [("r", there(numbers(10) + numbers(30, 30), -1))])
        self.assertEqual(followed.change([("in", [((50,), 1)])]), [("r", there(numbers(10) + numbers(10, 50)))])
        self.assertEqual(followed.change([("in", [((10,), -1)])]), [])

    def test_a_round_of_sixty_rings(self):
        rings = [one + other for one in "abcdef" for other in "ghijklmnop"]
        rules = [("rule", ring, (rings[turn - 1],), (), (0,)) for turn, ring in enumerate(rings)]
        rules.append(("rule", rings[31], ("in",), (), (0,)))
        knot = Knot(rings, rules)
        for weight in (1, -1, 1, -1):
            self.assertEqual(knot.change([("in", [((5,), weight)])]), [(ring, [((5,), weight)]) for ring in rings])

    def test_two_rings_that_ground_only_each_other_go_together(self):
        rules = [("rule", "r", ("s",), (), (0,)), ("rule", "s", ("r",), (), (0,)), ("rule", "s", ("a",), (), (0,))]
        followed = Followed(self, ["r", "s"], rules)
        both = [("r", [((1,), 1)]), ("s", [((1,), 1)])]
        self.assertEqual(followed.change([("a", [((1,), 2)])]), both)
        self.assertEqual(followed.change([("a", [((1,), -1)])]), [])
        self.assertEqual(followed.change([("a", [((1,), -1)])]), turned_change(both))

    def test_paths_round_and_cut(self):
        followed = Followed(self, ["path"], PATHS)
        followed.change([("edge", there(steps_round(8)))])
        self.assertEqual(len(followed.knot.rows_of("path")), 64)
        followed.change([("edge", [((3, 4), -1)])])
        self.assertEqual(len(followed.knot.rows_of("path")), 28)
        followed.change([("edge", there(steps_round(8), -1))])
        self.assertEqual(followed.knot.rows_of("path"), [])


class TooManyGrounds(unittest.TestCase):
    def test_four_hundred_and_four_hundred_and_one(self):
        knot = Knot(["path"], PATHS)
        allowed, beyond = there(chain(27) + lone(22)), there(chain(27) + lone(23))
        check_refused(self, TooMuch, knot.change, [("edge", beyond)])
        self.assertEqual(knot.rows_of("path"), [])
        self.assertEqual(len(knot.change([("edge", allowed)])[0][1]), 400)
        check_refused(self, TooMuch, knot.change, [("edge", there(lone(1, 1022)))])
        self.assertEqual(len(knot.rows_of("path")), 400)
        other = [((1000, -1000), -1), ((1022, -1022), 1)]
        self.assertEqual(knot.change([("edge", other)]), [("path", other)])
        self.assertEqual(knot.change([("edge", turned(summed_up([allowed, other])))]),
                         [("path", turned(ringed_paths(chain(27) + lone(22, 1001))))])

    def test_nothing_is_changed_by_a_refused_change(self):
        rules = ROUND + [("rule", "s", ("in", "in"), (), (0, 1))]
        knot, beside = Knot(["r", "s"], rules), Knot(["r", "s"], rules)
        first = [("in", there(numbers(19))), ("step", [((0, 100), 1)])]
        self.assertEqual(knot.change(first), beside.change(first))
        # Of twenty numbers there are 400 grounds of s alone; and what is refused also takes back, of both names.
        for refused in [[("in", there(numbers(1, 19)))], [("in", there(numbers(30, 19))), ("step", [((0, 100), -1)])],
                        [("step", there(chain(500, 200))), ("in", [((0,), -1), ((1,), 1), ((200,), 1)])]]:
            check_refused(self, TooMuch, knot.change, refused)
            for ring in ("r", "s"):
                self.assertEqual(knot.rows_of(ring), beside.rows_of(ring))
            self.assertEqual(knot.change([]), [])
        for later in [[("in", [((0,), -1)])], [("in", [((50,), 1)])], [("step", [((1, 2), 1), ((0, 100), -1)])],
                      [("in", there(numbers(18, 1), -1))], [("in", [((7,), 1)])]]:
            self.assertEqual(knot.change(later), beside.change(later))

    def test_the_weights_of_a_refused_change_are_not_kept(self):
        knot = Knot(["r"], [("rule", "r", ("a",), (), (0,)), ("rule", "r", ("b",), (), (0,))])
        check_refused(self, TooMuch, knot.change, [("b", [((7,), 5)]), ("a", there(numbers(401)))])
        self.assertEqual(knot.change([("b", [((7,), -4), ((8,), 1)])]), [("r", [((8,), 1)])])
        self.assertEqual(knot.change([("a", there(numbers(398, 10)))]), [("r", there(numbers(398, 10)))])
        check_refused(self, TooMuch, knot.change, [("b", [((7,), 5)]), ("a", [((1,), 1)])])
        self.assertEqual(knot.change([("b", [((7,), 5)])]), [("r", [((7,), 1)])])

    def test_what_is_below_0_or_not_asked_over_is_not_counted(self):
        knot = Knot(["r"], [("rule", "r", ("a",), (), (0,))])
        self.assertEqual(knot.change([("a", there(numbers(1000), -1)), ("b", there(numbers(1000)))]), [])
        self.assertEqual(knot.change([("a", there(numbers(600)))]), [])
        self.assertEqual(len(knot.change([("a", there(numbers(400)))])[0][1]), 400)
        check_refused(self, TooMuch, knot.change, [("a", [((400,), 1)])])

    def test_what_there_would_have_been_on_the_way_is_not_asked(self):
        knot = Knot(["r"], [("rule", "r", ("a",), (), (0,)), ("rule", "r", ("b",), (), (0,))])
        knot.change([("a", there(numbers(400)))])
        told = knot.change([("b", there(numbers(400, 400))), ("a", there(numbers(400), -1))])
        self.assertEqual(told, [("r", there(numbers(400), -1) + there(numbers(400, 400)))])
        self.assertEqual(knot.change([("a", there(numbers(400))), ("b", there(numbers(400, 400), -1))]),
                         [("r", there(numbers(400)) + there(numbers(400, 400), -1))])

    def test_many_grounds_with_the_same_head_row_are_counted(self):
        knot = Knot(["r"], [("rule", "r", ("a",), (), (0,))])
        rows = [(1, number) for number in range(400)]
        self.assertEqual(knot.change([("a", there(rows))]), [("r", [((1,), 1)])])
        check_refused(self, TooMuch, knot.change, [("a", [((1, 400), 1)])])
        self.assertEqual(knot.change([("a", there(rows[1:], -1))]), [])
        self.assertEqual(knot.change([("a", there(rows[:1], -1))]), [("r", [((1,), -1)])])


def ringed_paths(edges):
    return there(ringed.still_or_none(["path"], PATHS, [("edge", edges)])[0][1])


class AskedAnew(unittest.TestCase):
    def test_behind_each_of_a_row_of_changes(self):
        told, went, refused = 0, 0, 0
        for source in seeds(500):
            followed = Followed(self, RINGS, ringed.random_rules(source))
            for changes in random_row_of_changes(source):
                answer = followed.change(changes)
                refused += answer is None
                told += bool(answer)
                went += any(weight == -1 for ring, heap in answer or [] for row, weight in heap)
        self.assertGreater(told, 500)
        self.assertGreater(went, 200)
        self.assertGreater(refused, 10)

    def test_rounds_that_come_and_go(self):
        for source in seeds(30):
            followed = Followed(self, ["r"], ROUND)
            for turn in range(30):
                steps = [(tuple(source.randint(0, 6) for place in range(2)), source.choice([1, -1]))
                         for piece in range(source.randint(0, 4))]
                ways = [((source.randint(0, 6),), source.choice([1, -1]))]
                followed.change([("step", summed_up([steps])), ("in", summed_up([ways]))])

    def test_what_was_told_summed_up_is_the_standstill(self):
        for source in seeds(60):
            knot, told = Knot(RINGS, ringed.random_rules(source)), {ring: [] for ring in RINGS}
            for changes in random_row_of_changes(source):
                try:
                    answer = knot.change(changes)
                except TooMuch:
                    continue
                for ring, heap in answer:
                    told[ring] = summed_up([told[ring], heap])
                for ring in RINGS:
                    self.assertEqual(told[ring], there(knot.rows_of(ring)))


class TakenBack(unittest.TestCase):
    def test_a_change_and_then_the_same_turned(self):
        for source in seeds(60):
            knot = Knot(RINGS, ringed.random_rules(source))
            for changes in random_row_of_changes(source):
                before = [knot.rows_of(ring) for ring in RINGS]
                try:
                    told = knot.change(changes)
                except TooMuch:
                    continue
                self.assertEqual(knot.change(turned_change(changes)), turned_change(told))
                self.assertEqual([knot.rows_of(ring) for ring in RINGS], before)
                self.assertEqual(knot.change(changes), told)

    def test_other_orders_and_bundles_end_alike(self):
        for source in seeds(60):
            rules = ringed.random_rules(source)
            changes = random_row_of_changes(source, 6)
            ends = []
            for turn in range(4):
                knot = Knot(RINGS, rules)
                try:
                    for bundle in self.bundles(source, changes):
                        knot.change(bundle)
                except TooMuch:
                    continue
                ends.append([knot.rows_of(ring) for ring in RINGS])
            for end in ends:
                self.assertEqual(end, ends[0])

    def bundles(self, source, changes):
        """Changes in another order, some of them laid together."""
        order = source.sample(changes, len(changes))
        bundles = []
        while order:
            sums = {}
            for turn in range(min(len(order), source.randint(1, 3))):
                sums = added(sums, order.pop())
            bundles.append(list(sums.items()))
        return bundles


class KeptApart(unittest.TestCase):
    """Nothing handed in is changed; nothing done later to it or to what was told changes a knot or what was told."""

    def test_nothing_handed_in_is_changed(self):
        for source in seeds(20):
            rings, rules = list(RINGS), ringed.random_rules(source)
            handed = copied([rings, rules])
            knot = Knot(rings, rules)
            for changes in random_row_of_changes(source):
                before = copied(changes)
                try:
                    knot.change(changes)
                except TooMuch:
                    pass
                self.assertEqual(changes, before)
            self.assertEqual([rings, rules], handed)

    def test_a_knot_is_not_changed_through_what_was_handed_in_or_told(self):
        for source in seeds(40):
            rings, rules = list(RINGS), ringed.random_rules(source)
            knot, beside = Knot(rings, rules), Knot(list(rings), list(rules))
            spoiled(rings)
            rules.clear()
            for changes in random_row_of_changes(source):
                handed = copied(changes)
                try:
                    expected = beside.change(changes)
                except TooMuch:
                    check_refused(self, TooMuch, knot.change, handed)
                    spoiled(handed)
                    continue
                told = knot.change(handed)
                self.assertEqual(told, expected)
                spoiled(handed)
                spoiled(told)
                for ring in RINGS:
                    rows = knot.rows_of(ring)
                    self.assertEqual(rows, beside.rows_of(ring))
                    spoiled(rows)

    def test_rules_changed_behind_the_making(self):
        rings, rules = ["path"], list(PATHS)
        knot = Knot(rings, rules)
        rules.append(("rule", "path", ("edge",), (), (1, 0)))
        rings.append("more")
        self.assertEqual(knot.change([("edge", there(chain(2)))]), [("path", there([(0, 1), (0, 2), (1, 2)]))])

    def test_what_was_told_stays(self):
        for source in seeds(40):
            knot = Knot(RINGS, ringed.random_rules(source))
            told = []
            copies = []
            for changes in random_row_of_changes(source):
                handed = copied(changes)
                try:
                    told.append(knot.change(handed))
                except TooMuch:
                    continue
                told.append([knot.rows_of(ring) for ring in RINGS])
                copies += copied(told[-2:])
                spoiled(handed)
                self.assertEqual(told, copies)
            for turn in range(len(told)):
                spoiled(told[turn])
                self.assertEqual(told[turn + 1:], copies[turn + 1:])

    def test_two_knots_know_nothing_of_each_other(self):
        for source in seeds(30):
            rules = ringed.random_rules(source)
            here, there_too = random_row_of_changes(source), random_row_of_changes(source)
            alone = [self.told_by([Knot(RINGS, rules)], [changes])[0] for changes in (here, there_too)]
            self.assertEqual(self.told_by([Knot(RINGS, rules), Knot(RINGS, rules)], [here, there_too]), alone)

    def told_by(self, knots, rows_of_changes):
        told = [[] for knot in knots]
        for bundles in zip(*rows_of_changes):
            for turn, changes in enumerate(bundles):
                try:
                    told[turn].append(knots[turn].change(changes))
                except TooMuch:
                    told[turn].append("refused")
        return told


class ManyChanges(unittest.TestCase):
    def test_edges_one_by_one_and_back_in_another_order(self):
        source = random.Random(11)
        knot = Knot(["path"], PATHS)
        edges = chain(27)
        source.shuffle(edges)
        for edge in edges:
            knot.change([("edge", [(edge, 1)])])
        self.assertEqual(len(knot.rows_of("path")), 27 * 28 // 2)
        source.shuffle(edges)
        for turn, edge in enumerate(edges):
            knot.change([("edge", [(edge, -1)])])
            self.assertEqual(there(knot.rows_of("path")), ringed_paths(sorted(edges[turn + 1:])))


if __name__ == "__main__":
    unittest.main()
