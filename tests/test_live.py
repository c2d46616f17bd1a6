"""Live houses: promises 26 and 27, and what 2, 3, 5 and 6 say of them."""

import inspect
import unittest

import booked
from deltahouse.books import read_book
from deltahouse.errors import NoHeap, NoName, TooMuch
from deltahouse.heaps import plus
from deltahouse.live import Live
from deltahouse.plain import answers
from housed import (
    EVERY, PATHS, change_fault, cut_bundles, names_in, random_bundle, read_changes, rows, shown, small_books,
    taken_from, told_or_refusal, turned_bundle,
)
from keeping import summed_up
from ringed import chain, copied, lone, spoiled
from samples import GREAT, check_plain_heap, check_refused, seeds, wrong_things

SMALL = 10 ** 60 - 1


def told_of(live, *pairs):
    return shown(live.take_in(read_changes(*pairs)))


class Made(Live):
    """A live house made of a text, which can be asked for all its answers at once."""

    def __init__(self, text):
        super().__init__(read_book(text))
        self.every_name = names_in(read_book(text))


def all_of(live):
    return [(name, live.answer(name)) for name in live.every_name]


class LiveCase(unittest.TestCase):
    def check_stays(self, live, refusal, changes):
        """That a bundle is refused, and the house is then as it was: by its answers, and by what it tells next."""
        before = all_of(live)
        handed = copied(changes) if refusal is not NoHeap else changes
        check_refused(self, refusal, live.take_in, handed)
        self.assertEqual(all_of(live), before)
        self.assertEqual(live.take_in([]), [])
        self.assertEqual(all_of(live), before)


class Interface(unittest.TestCase):
    def test_names_and_arguments(self):
        self.assertEqual(list(inspect.signature(Live).parameters), ["book"])
        self.assertEqual(list(inspect.signature(Live.take_in).parameters), ["self", "changes"])
        self.assertEqual(list(inspect.signature(Live.answer).parameters), ["self", "name"])


class Begins(unittest.TestCase):
    def test_with_empty_tables(self):
        for text in [EVERY, PATHS, "table t 1", "ring r 1", "table t 8\ncount c t all"]:
            self.assertEqual(all_of(Made(text)), [(name, []) for name in names_in(read_book(text))])


class Told(unittest.TestCase):
    def test_the_lines_that_have_changed_in_their_order(self):
        live = Made(PATHS)
        self.assertEqual(told_of(live, ("edge", "1,2*1")), [("edge", "1,2*1"), ("path", "1,2*1"), ("ends", "1,1*1")])
        self.assertEqual(told_of(live, ("edge", "2,3*1")),
                         [("edge", "2,3*1"), ("path", "1,3*1 2,3*1"), ("ends", "1,1*-1 1,2*1 2,1*1")])
        self.assertEqual(told_of(live, ("edge", "1,2*4")), [("edge", "1,2*4")])
        self.assertEqual(told_of(live, ("edge", "1,2*-5 3,1*-1")),
                         [("edge", "1,2*-5 3,1*-1"), ("path", "1,2*-1 1,3*-1"), ("ends", "1,2*-1")])
        self.assertEqual(shown(all_of(live)), [("edge", "2,3*1 3,1*-1"), ("path", "2,3*1"), ("ends", "2,1*1")])

    def test_every_kind_of_line(self):
        live = Made(EVERY)
        self.assertEqual(told_of(live, ("t", "1,1*1 1,2*1 2,-3*-1"), ("u", "1*1")), [
            ("t", "1,1*1 1,2*1 2,-3*-1"), ("u", "1*1"), ("p", "1,1*1 1,2*1"), ("k", "1*2 2*-1"), ("o", "1*1"),
            ("a", "1*3 2*-1"), ("b", "1*1 2*-1"), ("j", "1,1,1*1 1,2,1*1"), ("l", "2,-3*-1"), ("c", "1,2*1 2,-1*1"),
            ("s", "1,3*1 2,3*1"), ("e", "1,1*1"), ("m", "1,2*1"), ("x", "1*1 2*1"), ("y", "1*1 2*1"),
            ("z", "1,1*1 1,2*1 2,1*1 2,2*1"), ("n", "4*1"),
        ])
        self.assertEqual(told_of(live, ("u", "1*-1")), [
            ("u", "1*-1"), ("a", "1*-1"), ("b", "1*1"), ("j", "1,1,1*-1 1,2,1*-1"), ("l", "1,1*1 1,2*1"),
            ("x", "1*-1 2*-1"), ("y", "1*-1 2*-1"), ("z", "1,1*-1 1,2*-1 2,1*-1 2,2*-1"), ("n", "4*-1"),
        ])

    def test_a_line_below_one_that_has_not_changed_has_not(self):
        live = Made("table t 1\nonce o t\ncount n o all\nless d t t\nonce f d")
        told_of(live, ("t", "1*1"))
        self.assertEqual(told_of(live, ("t", "1*1")), [("t", "1*1")])
        self.assertEqual(told_of(live, ("t", "1*-2")), [("t", "1*-2"), ("o", "1*-1"), ("n", "1*-1")])

    def test_a_line_that_asks_twice_over_one_that_has_changed(self):
        live = Made("table t 1\njoin j t t all\nplus a t t\nring r 2\nrule r t t all 0,1")
        told_of(live, ("t", "1*1"))
        self.assertEqual(told_of(live, ("t", "2*1")),
                         [("t", "2*1"), ("j", "1,2*1 2,1*1 2,2*1"), ("a", "2*2"), ("r", "1,2*1 2,1*1 2,2*1")])

    def test_a_line_below_that_stays_while_what_lies_between_moves(self):
        live = Made("table t 1\ntable u 1\nless d t u\nplus s d u")
        self.assertEqual(told_of(live, ("t", "1*1"), ("u", "1*1")), [("t", "1*1"), ("u", "1*1"), ("s", "1*1")])
        self.assertEqual(told_of(live, ("u", "1*1")), [("u", "1*1"), ("d", "1*-1")])

    def test_bundles_that_come_to_nothing(self):
        live = Made(EVERY)
        told_of(live, ("t", "1,1*1"), ("u", "1*1"))
        before = all_of(live)
        for pairs in [[], [("t", "")], [("t", ""), ("u", ""), ("t", "")], [("t", "5,5*1"), ("t", "5,5*-1")],
                      [("u", "1*1"), ("t", "5,5*1 6,6*2"), ("u", "1*-1"), ("t", "5,5*-1"), ("t", "6,6*-2")]]:
            self.assertEqual(told_of(live, *pairs), [])
            self.assertEqual(all_of(live), before)

    def test_a_name_twice_in_a_bundle(self):
        live = Made("table t 1\nonce o t")
        self.assertEqual(told_of(live, ("t", "1*1 2*1"), ("t", "1*-1 2*1")), [("t", "2*2"), ("o", "2*1")])
        self.assertEqual(told_of(live, ("t", "2*-1"), ("t", "2*-1"), ("t", "3*1"), ("t", "")),
                         [("t", "2*-2 3*1"), ("o", "2*-1 3*1")])

    def test_a_change_may_have_more_figures_than_an_answer(self):
        live = Made("table t 1")
        live.take_in([("t", [((1,), SMALL)])])
        self.assertEqual(live.take_in([("t", [((1,), -2 * SMALL)])]), [("t", [((1,), -2 * SMALL)])])
        self.assertEqual(live.answer("t"), [((1,), -SMALL)])


class Refused(LiveCase):
    def filled(self):
        live = Made(EVERY)
        live.take_in(read_changes(("t", "1,1*1 2,1*-1"), ("u", "1*1")))
        return live

    def test_names_that_are_no_tables(self):
        live = self.filled()
        for name in ["", "q", "p", "x", "z", "n", "T", "t ", "table"]:
            self.check_stays(live, NoName, [(name, [])])
            self.check_stays(live, NoName, [("t", [((7, 7), 1)]), (name, [])])

    def test_names_of_other_kinds(self):
        for thing in wrong_things():
            if not isinstance(thing, str):
                check_refused(self, NoName, self.filled().take_in, [(thing, [])])

    def test_what_is_no_heap_of_its_tables_width(self):
        live = self.filled()
        wrong = [((1, 2), 1), [((1, 2), 0)], [((1,), 1)], [((1, 2, 3), 1)], [((1, True), 1)], [((1, 2), True)],
                 [([1, 2], 1)], [((2, 2), 1), ((1, 1), 1)], [((1, 1), 1), ((1, 1), 1)], [((1, 2), 1), ((1,), 1)]]
        for heap in wrong + [thing for thing in wrong_things() if not isinstance(thing, list) or thing]:
            self.check_stays(live, NoHeap, [("t", heap)])
            self.check_stays(live, NoHeap, [("u", [((7,), 1)]), ("t", [((7, 7), 1)]), ("t", heap)])

    def test_tuple_by_tuple_from_the_left(self):
        live = self.filled()
        wide = [((1, 2, 3), 1)]
        self.check_stays(live, NoName, [("q", wide)])
        self.check_stays(live, NoName, [("q", wide), ("t", wide)])
        self.check_stays(live, NoHeap, [("t", wide), ("q", wide)])
        self.check_stays(live, NoHeap, [("u", []), ("t", wide), ("q", [])])
        self.check_stays(live, NoName, [("u", []), ("q", []), ("t", wide)])

    def test_names_and_heaps_go_ahead_of_what_is_too_great(self):
        live = self.filled()
        great = ("u", rows(500))
        self.check_stays(live, TooMuch, [great])
        for changes in [[great, ("q", [])], [("q", []), great]]:
            self.check_stays(live, NoName, changes)
        for changes in [[great, ("t", rows(1))], [("t", rows(1)), great]]:
            self.check_stays(live, NoHeap, changes)

    def test_what_comes_behind_a_refused_bundle_is_told_as_without_it(self):
        live, other = self.filled(), self.filled()
        for refused in [[("t", [((5, 5), 1)]), ("q", [])], [("t", [((5, 5), 1)]), ("u", [((1, 1), 1)])],
                        [("u", rows(401)), ("t", [((5, 5), 1)])], [("u", [((GREAT,), 1)])]]:
            self.assertIn(told_or_refusal(live.take_in, refused), (NoName, NoHeap, TooMuch))
            changes = read_changes(("t", "5,5*1 2,1*1"), ("u", "5*1"))
            self.assertEqual(live.take_in(changes), other.take_in(changes))
            self.assertEqual(all_of(live), all_of(other))


class TooGreat(LiveCase):
    """Each edge is reached by one bundle, and by the sum of several; one more is refused, and may come behind."""

    def check_edge(self, lines, bundles, beyond):
        text = "\n".join(lines)
        whole = [pair for changes in bundles for pair in changes]
        live = Made(text)
        live.take_in(whole)
        steps = Made(text)
        for changes in bundles:
            steps.take_in(changes)
        for house in (live, steps):
            self.assertEqual(all_of(house), booked.answers_or_none(read_book(text), whole))
            self.check_stays(house, TooMuch, beyond)
            house.take_in(turned_bundle(bundles[0]))
            house.take_in(bundles[0])
            self.check_stays(house, TooMuch, beyond)
            house.take_in(turned_bundle(whole))
            house.take_in(beyond)
        self.check_stays(Made(text), TooMuch, whole + beyond)

    def test_rows(self):
        for first in (1, 200, 399):
            self.check_edge(["table t 1"], [[("t", rows(first))], [("t", rows(400 - first, first, -1))]],
                            [("t", rows(1, 400))])
        self.check_edge(["table t 1", "table u 1", "plus a t u"], [[("t", rows(200))], [("u", rows(200, 200))]],
                        [("u", rows(1, 400))])

    def test_rows_of_a_line_alone(self):
        self.check_edge(["table t 1", "table u 1", "join j t u all", "count n j all"],
                        [[("t", rows(20))], [("u", rows(20))]], [("u", rows(1, 20))])

    def test_pairs_that_meet(self):
        self.check_edge(["table t 1", "join j t t all", "less d j j"], [[("t", rows(11))], [("t", rows(9, 11, -1))]],
                        [("t", rows(1, 20))])

    def test_grounds(self):
        self.check_edge(["table t 1", "ring r 1", "rule r t t all 0"], [[("t", rows(11))], [("t", rows(9, 11))]],
                        [("t", rows(1, 20))])
        paths = PATHS.split("\n")
        edges = [[("edge", [(row, 1) for row in sorted(part)])] for part in (chain(27), lone(22))]
        self.check_edge(paths, edges, [("edge", [(row, 1) for row in lone(1, 5000)])])

    def test_numbers_and_weights(self):
        self.check_edge(["table t 1"], [[("t", [((1,), SMALL - 1)])], [("t", [((1,), 1)])]], [("t", [((1,), 1)])])
        self.check_edge(["table t 1", "sum s t 0 all"], [[("t", [((1,), SMALL - 1)])], [("t", [((1,), 1)])]],
                        [("t", [((3,), 1)])])
        self.check_stays(Made("table t 1"), TooMuch, [("t", [((SMALL + 1,), 1)])])
        self.check_stays(Made("table t 1"), TooMuch, [("t", [((-SMALL - 1,), 1)])])

    def test_the_tables_behind_the_bundle_are_asked_not_those_on_the_way(self):
        live = Made("table t 1\ncount n t all")
        live.take_in([("t", rows(400))])
        self.assertEqual(live.take_in([("t", rows(300, 400)), ("t", rows(300, 0, -1))])[1:], [])
        self.assertEqual(live.answer("t"), rows(400, 300))
        live.take_in([("t", [((GREAT,), GREAT)]), ("t", [((GREAT,), -GREAT)])])
        self.check_stays(live, TooMuch, [("t", rows(300, 700)), ("t", rows(299, 300, -1))])

    def test_a_bundle_that_makes_less_of_too_much_is_refused_by_what_stays(self):
        self.check_stays(Made("table t 1\nplus a t t"), TooMuch, [("t", rows(500)), ("t", rows(99, 0, -1))])


class AnswerOfAName(unittest.TestCase):
    def test_names_that_no_line_has(self):
        live = Made(EVERY)
        for name in ["", "q", "rule", "T", "t ", " t", "table", "t\n"] + [
                thing for thing in wrong_things() if not isinstance(thing, str)]:
            check_refused(self, NoName, live.answer, name)

    def test_every_name_but_no_rule_by_itself(self):
        live = Made("table t 1\nring r 1\nrule r t 0")
        live.take_in([("t", rows(2, 0, 3))])
        self.assertEqual([live.answer(name) for name in "tr"], [rows(2, 0, 3), rows(2)])


class TurnedRightBehind(LiveCase):
    def test_each_change_turned(self):
        for source in seeds(60):
            book = small_books(source)
            live, back = Live(book), Live(book)
            for turn in range(5):
                changes = random_bundle(source, book, 5)
                if told_or_refusal(back.take_in, changes) is TooMuch:
                    continue
                back.take_in(turned_bundle(changes))
                before = [live.answer(name) for name in names_in(book)]
                told = live.take_in(changes)
                again = live.take_in(turned_bundle(changes))
                self.assertEqual(again, turned_bundle(told))
                self.assertEqual([live.answer(name) for name in names_in(book)], before)
                self.assertEqual(live.take_in(changes), told)
                back.take_in(changes)

    def test_at_the_edge(self):
        live = Made("table t 1\njoin j t t all\nring r 1\nrule r t t all 0")
        changes = [("t", rows(20))]
        told = live.take_in(changes)
        self.check_stays(live, TooMuch, [("t", rows(1, 20))])
        self.assertEqual(live.take_in(turned_bundle(changes)), turned_bundle(told))
        self.assertEqual(live.take_in(changes), told)


class Random(LiveCase):
    def runs(self, count, most=24):
        for source in seeds(count):
            book = read_book(booked.random_book(source, most))
            yield source, book, [random_bundle(source, book, source.choice([3, 3, 8, 60])) for turn in range(6)]

    def test_what_is_told_is_the_answer_now_less_the_one_before(self):
        refused = 0
        for source, book, bundles in self.runs(240):
            live, taken = Live(book), []
            before = booked.answers_or_none(book, taken)
            for changes in bundles:
                now = booked.answers_or_none(book, taken + changes)
                told = told_or_refusal(live.take_in, changes)
                if now is None:
                    refused += 1
                    self.assertIs(told, TooMuch)
                else:
                    pairs = [(here[0], taken_from(here[1], there[1])) for here, there in zip(now, before)]
                    self.assertEqual(told, [pair for pair in pairs if pair[1]])
                    before, taken = now, taken + changes
                self.assertEqual([(name, live.answer(name)) for name in names_in(book)], before)
        self.assertGreater(refused, 3)

    def test_what_was_told_summed_up_is_the_answer_asked_anew(self):
        for source, book, bundles in self.runs(60):
            live, sums, taken = Live(book), {}, []
            for changes in bundles:
                told = told_or_refusal(live.take_in, changes)
                if told is not TooMuch:
                    taken += changes
                    for name, heap in told:
                        sums[name] = plus(sums.get(name, []), heap)
                self.assertEqual([(name, sums.get(name, [])) for name in names_in(book)], answers(book, taken))

    def test_other_orders_and_other_bundles_end_alike(self):
        for source, book, bundles in self.runs(60, 12):
            live, other = Live(book), Live(book)
            if any(told_or_refusal(live.take_in, changes) is TooMuch for changes in bundles):
                continue
            told = []
            cuts = cut_bundles(source, [(0, changes) for changes in bundles])
            for place, changes in cuts:
                told.append(told_or_refusal(other.take_in, changes))
            if TooMuch not in told:
                for name in names_in(book):
                    self.assertEqual(other.answer(name), live.answer(name))
                    self.assertEqual(summed_up([heap for step in told for known, heap in step if known == name]),
                                     live.answer(name))

    def test_the_told_kinds(self):
        for source, book, bundles in self.runs(40):
            live, widths = Live(book), booked.widths_of(book)
            for changes in bundles:
                told = told_or_refusal(live.take_in, changes)
                if told is TooMuch:
                    continue
                self.assertIs(type(told), list)
                names = [pair[0] for pair in told]
                self.assertEqual(names, [name for name in names_in(book) if name in names])
                for pair in told:
                    self.assertIs(type(pair), tuple)
                    self.assertEqual(len(pair), 2)
                    self.assertNotEqual(pair[1], [])
                    check_plain_heap(self, pair[1], widths[pair[0]])
                for name in names_in(book):
                    check_plain_heap(self, live.answer(name), widths[name])

    def test_every_refusal_by_chance(self):
        for source, book, bundles in self.runs(60, 12):
            live, names = Live(book), names_in(book)
            for changes in bundles:
                wrong = changes + [(source.choice(names), source.choice(wrong_things() + [[], rows(2), rows(500)]))]
                source.shuffle(wrong)
                fault = change_fault(book, wrong)
                before = [live.answer(name) for name in names]
                if fault:
                    check_refused(self, fault, live.take_in, wrong)
                    self.assertEqual([live.answer(name) for name in names], before)


class AskersOwn(unittest.TestCase):
    CHANGES = [("t", "1,1*1 1,2*1 2,-3*-1"), ("u", "1*1"), ("u", "2*1")]

    def test_nothing_that_is_handed_in_is_changed(self):
        for source in seeds(40):
            book = small_books(source)
            live, before = Live(book), copied(book)
            for turn in range(4):
                changes = random_bundle(source, book)
                handed = copied(changes)
                told_or_refusal(live.take_in, handed)
                self.assertEqual(handed, changes)
            self.assertEqual(book, before)

    def test_nothing_done_to_what_was_handed_in_changes_the_house(self):
        book = read_book(EVERY)
        live, other = Live(book), Live(read_book(EVERY))
        spoiled(book)
        for turn in range(3):
            changes = read_changes(*self.CHANGES)
            self.assertEqual(live.take_in(changes), other.take_in(read_changes(*self.CHANGES)))
            spoiled(changes)
            for name in names_in(read_book(EVERY)):
                self.assertEqual(live.answer(name), other.answer(name))

    def test_nothing_done_to_what_was_told_changes_the_house(self):
        live, other = Made(EVERY), Made(EVERY)
        spoiled(all_of(live))
        for turn in range(3):
            spoiled(live.take_in(read_changes(*self.CHANGES)))
            other.take_in(read_changes(*self.CHANGES))
            spoiled(all_of(live))
            self.assertEqual(all_of(live), all_of(other))

    def test_what_was_told_stays(self):
        live = Made(EVERY)
        kept = []
        for turn in range(4):
            told = [live.take_in(read_changes(*self.CHANGES)), all_of(live)]
            kept.append((told, copied(told)))
            spoiled(all_of(live))
            live.take_in(read_changes(("t", "1,1*1"), ("u", "7*1")))
            for now, before in kept:
                self.assertEqual(now, before)

    def test_two_houses_of_one_book(self):
        book = read_book(PATHS)
        live, other = Live(book), Live(book)
        live.take_in(read_changes(("edge", "1,2*1")))
        self.assertEqual([other.answer(name) for name in names_in(book)], [[], [], []])
        self.assertEqual(shown(other.take_in(read_changes(("edge", "5,6*1"))))[1], ("path", "5,6*1"))

    def test_no_two_told_heaps_are_one_list(self):
        live = Made(EVERY)
        changes = read_changes(*self.CHANGES)
        told = live.take_in(changes) + all_of(live) + all_of(live) + changes
        self.assertEqual(len({id(heap) for name, heap in told}), len(told))


if __name__ == "__main__":
    unittest.main()
