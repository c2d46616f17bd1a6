"""Answers asked anew: promises 24 and 25, and what 2, 3, 5 and 6 say of them."""

import inspect
import unittest

import booked
from deltahouse.asks import once, picked, taken
from deltahouse.books import read_book
from deltahouse.errors import NoHeap, NoName, TooMuch
from deltahouse.groups import counted, least, most, summed
from deltahouse.heaps import heap_of, less, plus, rows_there, times
from deltahouse.joins import joined, left_over
from deltahouse.plain import answers
from deltahouse.rings import standstill
from deltahouse.texts import show_heap
from housed import book_of, read_changes, rows
from ringed import chain, copied, lone, spoiled
from samples import GREAT, Odd, check_plain_heap, check_refused, random_heap, seeds, wrong_things

SMALL = 10 ** 60 - 1
NOT_SMALL = 10 ** 60


def wide(count, width):
    return [((number,) * width, 1) for number in range(count)]


def told_of(book, changes):
    """The answers, heaps as texts."""
    return [(name, show_heap(heap)) for name, heap in answers(book, changes)]


def answers_or_none(book, changes):
    try:
        return answers(book, changes)
    except TooMuch:
        return None


class AnswerCase(unittest.TestCase):
    def check(self, lines, changes, told):
        self.assertEqual(told_of(book_of(*lines), read_changes(*changes)), told)

    def check_last(self, lines, changes, text):
        self.assertEqual(told_of(book_of(*lines), read_changes(*changes))[-1][1], text)

    def check_too_great(self, book, changes):
        check_refused(self, TooMuch, answers, book, changes)

    def check_edge(self, lines, within, beyond):
        """That the first changes are just let be, and the others are too great; and that both are reckoned so."""
        book = book_of(*lines)
        told = answers(book, within)
        self.assertEqual(told, booked.answers_or_none(book, within))
        self.check_too_great(book, beyond)
        self.assertIsNone(booked.answers_or_none(book, beyond))


class Interface(unittest.TestCase):
    def test_names_and_arguments(self):
        self.assertEqual(list(inspect.signature(answers).parameters), ["book", "changes"])


class EachKindOfLine(AnswerCase):
    def test_table(self):
        self.check(["table t 2"], [("t", "1,2*1 3,-4*-2")], [("t", "1,2*1 3,-4*-2")])

    def test_pick(self):
        for check, text in [("0 is 1", "1,1*1 1,2*-3"), ("1 below 2", "1,1*1"), ("1 above 1", "1,2*-3 2,2*5"),
                            ("0 same 1", "1,1*1 2,2*5"), ("1 same 0", "1,1*1 2,2*5"),
                            ("0 same 0", "1,1*1 1,2*-3 2,2*5"), ("0 is -1", ""), ("0 above -1", "1,1*1 1,2*-3 2,2*5")]:
            self.check_last(["table t 2", f"pick n t {check}"], [("t", "1,1*1 1,2*-3 2,2*5")], text)

    def test_take_and_once(self):
        self.check_last(["table t 2", "take n t 0"], [("t", "1,1*1 1,2*-3 2,2*5")], "1*-2 2*5")
        self.check_last(["table t 2", "take n t 1,0,1"], [("t", "1,2*-3 2,2*5")], "2,1,2*-3 2,2,2*5")
        self.check_last(["table t 2", "take n t 0"], [("t", "1,1*1 1,2*-1")], "")
        self.check_last(["table t 2", "once n t"], [("t", "1,1*1 1,2*-3 2,2*5")], "1,1*1 2,2*1")

    def test_plus_and_less(self):
        tables = [("x", "1*1 2*2"), ("y", "2*-2 3*4")]
        self.check_last(["table x 1", "table y 1", "plus n x y"], tables, "1*1 3*4")
        self.check_last(["table x 1", "table y 1", "less n x y"], tables, "1*1 2*4 3*-4")
        self.check_last(["table x 1", "table y 1", "less n y x"], tables, "1*-1 2*-4 3*4")
        self.check_last(["table x 1", "plus n x x"], [("x", "1*1 2*-2")], "1*2 2*-4")
        self.check_last(["table x 1", "less n x x"], [("x", "1*1 2*-2")], "")

    def test_join_and_left(self):
        tables = [("x", "1,5*2 1,6*-3 2,5*1"), ("y", "1*7 2*-2")]
        lines = ["table x 2", "table y 1"]
        self.check_last(lines + ["join n x y 0=0"], tables, "1,5,1*14 1,6,1*-21 2,5,2*-2")
        self.check_last(lines + ["join n y x 0=0"], tables, "1,1,5*14 1,1,6*-21 2,2,5*-2")
        self.check_last(lines + ["join n y y all"], tables, "1,1*49 1,2*-14 2,1*-14 2,2*4")
        self.check_last(lines + ["left n x y 0=0"], tables, "2,5*1")
        self.check_last(lines + ["left n y x 0=0"], tables, "")
        self.check_last(lines + ["left n x y 1=0"], tables, "1,5*2 1,6*-3 2,5*1")
        self.check_last(lines + ["left n x y all"], tables, "")

    def test_groups(self):
        tables = [("t", "1,5*2 1,6*-2 2,4*1 2,7*1 3,9*-1")]
        for line, text in [("count n t 0", "1,0*1 2,2*1 3,-1*1"), ("sum n t 1 0", "1,-2*1 2,11*1 3,-9*1"),
                           ("least n t 1 0", "1,5*1 2,4*1"), ("most n t 1 0", "1,5*1 2,7*1"), ("count n t all", "1*1"),
                           ("sum n t 0 all", "1*1"), ("least n t 1 all", "4*1"), ("most n t 1 all", "7*1"),
                           ("count n t 0,0", "1,1,0*1 2,2,2*1 3,3,-1*1"), ("most n t 0 all", "2*1")]:
            self.check_last(["table t 2", line], tables, text)
        self.check_last(["table t 2", "count n t 0"], [("t", "1,5*1 1,6*-1")], "1,0*1")

    def test_ring(self):
        lines = ["table edge 2", "ring path 2", "rule path edge 0,1", "rule path path edge 1=0 0,3"]
        self.check(lines, [("edge", "1,2*5 2,3*1 3,1*-1")],
                   [("edge", "1,2*5 2,3*1 3,1*-1"), ("path", "1,2*1 1,3*1 2,3*1")])
        self.check_last(lines, [("edge", "1,2*1 2,1*1")], "1,1*1 1,2*1 2,1*1 2,2*1")
        self.check_last(lines, [], "")

    def test_a_ring_without_rules_has_no_rows(self):
        self.check(["table t 1", "ring r 1"], [("t", "1*1")], [("t", "1*1"), ("r", "")])
        self.check(["table t 1", "ring r 1", "ring s 1", "rule s t 0", "rule s r 0"], [("t", "1*1")],
                   [("t", "1*1"), ("r", ""), ("s", "1*1")])

    def test_rows_that_ground_only_each_other_are_not_there(self):
        lines = ["table t 1", "ring r 1", "ring s 1", "rule r s 0", "rule s r 0", "rule r r 0"]
        self.check(lines, [("t", "1*1")], [("t", "1*1"), ("r", ""), ("s", "")])
        self.check(lines + ["rule s t 0"], [("t", "1*1")], [("t", "1*1"), ("r", "1*1"), ("s", "1*1")])

    def test_rings_of_one_knot_ask_each_other(self):
        self.check(["table t 1", "table next 2", "ring even 1", "ring odd 1", "rule even t 0",
                    "rule odd even next 0=0 2", "rule even odd next 0=0 2"],
                   [("t", "0*1"), ("next", "0,1*1 1,2*1 2,3*1")],
                   [("t", "0*1"), ("next", "0,1*1 1,2*1 2,3*1"), ("even", "0*1 2*1"), ("odd", "1*1 3*1")])

    def test_a_knot_asks_over_a_knot_above_and_lines_over_rings(self):
        self.check(["table t 1", "ring r 1", "rule r t 0", "ring s 2", "rule s r t all 0,1", "count n s 0",
                    "pick m n 1 above 1", "ring u 1", "rule u m s 0=1 2"],
                   [("t", "1*3 2*1 3*-1")],
                   [("t", "1*3 2*1 3*-1"), ("r", "1*1 2*1"), ("s", "1,1*1 1,2*1 2,1*1 2,2*1"), ("n", "1,2*1 2,2*1"),
                    ("m", "1,2*1 2,2*1"), ("u", "1*1 2*1")])

    def test_a_source_may_be_any_line_and_only_its_rows_that_are_there_are_given(self):
        self.check_last(["table t 1", "table u 1", "less d t u", "ring r 1", "rule r d 0"],
                        [("t", "1*2 2*1"), ("u", "1*1 2*1 3*1")], "1*1")
        self.check_last(["table t 1", "count n t all", "ring r 1", "rule r n 0"], [("t", "1*2 2*-9")], "-7*1")


class OneForEachLine(AnswerCase):
    LINES = ["table t 2", "pick p t 0 is 1", "ring r 1", "ring s 1", "rule r t 0", "rule r s 0", "table u 2",
             "once o t", "ring q 1", "rule q r 0", "join j t t 0=0", "plus e t u", "count c t all"]

    def test_no_changes(self):
        names = ["t", "p", "r", "s", "u", "o", "q", "j", "e", "c"]
        self.assertEqual(answers(book_of(*self.LINES), []), [(name, []) for name in names])
        self.assertEqual(answers(book_of(*self.LINES), [("t", []), ("u", [])]), [(name, []) for name in names])

    def test_in_the_order_of_the_lines_empty_heaps_too(self):
        self.check(self.LINES, [("u", "7,7*1"), ("t", "1,5*1 2,5*1")], [
            ("t", "1,5*1 2,5*1"), ("p", "1,5*1"), ("r", "1*1 2*1"), ("s", ""), ("u", "7,7*1"), ("o", "1,5*1 2,5*1"),
            ("q", "1*1 2*1"), ("j", "1,5,1,5*1 2,5,2,5*1"), ("e", "1,5*1 2,5*1 7,7*1"), ("c", "2*1"),
        ])

    def test_a_book_of_one_line_and_of_twenty_four(self):
        self.check(["table t 1"], [], [("t", "")])
        self.check(["ring r 1"], [], [("r", "")])
        self.assertEqual(answers(book_of("ring r 1", "once n r"), []), [("r", []), ("n", [])])
        lines = ["table a 1"]
        for name, above in zip("bcdefghijklmnopqrstuvwx", "abcdefghijklmnopqrstuvw"):
            lines.append(f"plus {name} {above} {above}")
        told = answers(book_of(*lines), [("a", [((1,), 1)])])
        self.assertEqual([name for name, heap in told], list("abcdefghijklmnopqrstuvwx"))
        self.assertEqual([heap for name, heap in told], [[((1,), 2 ** turn)] for turn in range(24)])


class ChangesSummed(AnswerCase):
    def test_a_table_named_twice(self):
        self.check(["table t 1", "once n t"], [("t", "1*1 2*1"), ("t", "1*-3 3*1")],
                   [("t", "1*-2 2*1 3*1"), ("n", "2*1 3*1")])
        self.check(["table t 1", "table u 1"], [("t", "1*1"), ("u", "5*1"), ("t", "1*1"), ("u", "5*1"), ("t", "2*1")],
                   [("t", "1*2 2*1"), ("u", "5*2")])

    def test_heaps_that_come_to_nothing(self):
        self.check(["table t 1", "count n t all"], [("t", "1*1 2*2"), ("t", "1*-1 2*-2")], [("t", ""), ("n", "")])
        self.check(["table t 1", "count n t all"], [("t", "1*1"), ("t", ""), ("t", "2*1"), ("t", "1*-1")],
                   [("t", "2*1"), ("n", "1*1")])

    def test_other_orders_and_other_cuts_end_alike(self):
        for source in seeds(30):
            book = read_book(booked.random_book(source, 12))
            changes = booked.random_changes(source, book)
            told = answers_or_none(book, changes)
            shuffled = source.sample(changes, len(changes))
            self.assertEqual(answers_or_none(book, shuffled), told)
            cut = [(name, [pair]) for name, heap in changes for pair in heap]
            source.shuffle(cut)
            self.assertEqual(answers_or_none(book, cut), told)
            summed_up = [(name, heap_of([pair for known, heap in changes if known == name for pair in heap]))
                         for name in booked.tables_in(book)]
            self.assertEqual(answers_or_none(book, summed_up), told)

    def test_what_is_taken_back_leads_to_what_was_before(self):
        for source in seeds(30):
            book = read_book(booked.random_book(source, 12))
            changes, more = booked.random_changes(source, book), booked.random_changes(source, book)
            back = [(name, times(heap, -1)) for name, heap in more]
            self.assertEqual(answers_or_none(book, changes + more + back), answers_or_none(book, changes))


class Refused(AnswerCase):
    BOOK = ["table t 2", "table u 1", "once n t", "ring r 1", "rule r u 0"]

    def test_a_name_that_is_no_tables(self):
        book = book_of(*self.BOOK)
        names = ["r", "n", "x", "", "T", "tt", "t ", " t", "table", "rule", "all", ["t"], ("t",), b"t", Odd()]
        for name in names + wrong_things():
            for heap in [[], [((1, 2), 1)], [((1,), 1)], None, "wrong"]:
                check_refused(self, NoName, answers, book, [(name, heap)])
        check_refused(self, NoName, answers, book_of("ring r 1"), [("r", [])])
        check_refused(self, NoName, answers, book_of("ring r 1"), [("t", [])])

    def test_what_is_no_heap_of_its_tables_width(self):
        book = book_of(*self.BOOK)
        wrong_heaps = wrong_things() + [
            [((1,), 1)], [((1, 2, 3), 1)], [((1, 2), 0)], [((1, 2), True)], [((1, True), 1)], [((1, 2), 1.0)],
            [((1, 2.0), 1)], [((2, 1), 1), ((1, 2), 1)], [((1, 2), 1), ((1, 2), 1)], [([1, 2], 1)], [[(1, 2), 1]],
            (((1, 2), 1),), [((1, 2),)], [((1, 2), 1, 1)], [((1, 2), "1")], [(("1", 2), 1)], [((1, 2), None)], "1,2*1",
            {(1, 2): 1}, [((1, 2), 1), ((3,), 1)], [((1, 2), 1), None], ((1, 2), 1), [(1, 2)], [((1, 2), Odd())],
            [((1, Odd()), 1)], [((1, 2), 1), Odd()], iter([]), tuple(), [((1, 2), 1), ((1, 3), 0)], [((), 1)],
        ]
        for heap in wrong_heaps:
            check_refused(self, NoHeap, answers, book, [("t", heap)])
            check_refused(self, NoHeap, answers, book, [("u", []), ("t", [((1, 2), 1)]), ("t", heap)])
        for width in range(1, 9):
            book = book_of(f"table t {width}")
            for other in range(1, 10):
                heap = [((0,) * other, 1)]
                if other == width:
                    self.assertEqual(answers(book, [("t", heap)]), [("t", heap)])
                else:
                    check_refused(self, NoHeap, answers, book, [("t", heap)])

    def test_which_of_two_faults_is_told(self):
        book = book_of(*self.BOOK)
        good, bad, great = ("t", [((1, 2), 1)]), ("t", [((1,), 1)]), ("u", [((NOT_SMALL,), 1)])
        nameless, both = ("x", [((1, 2), 1)]), ("n", None)
        many = ("u", rows(401))
        for changes, refusal in [
            ([both], NoName), ([bad, nameless], NoHeap), ([nameless, bad], NoName), ([bad, both], NoHeap),
            ([good, bad, nameless], NoHeap), ([good, nameless, bad], NoName), ([good, good, both, bad], NoName),
            ([great, nameless], NoName), ([great, bad], NoHeap), ([many, nameless], NoName), ([many, bad], NoHeap),
            ([nameless, great], NoName), ([bad, many], NoHeap), ([great, many], TooMuch), ([good, great], TooMuch),
            ([great, good], TooMuch), ([many], TooMuch), ([great, bad, nameless], NoHeap),
        ]:
            check_refused(self, refusal, answers, book, changes)

    def test_a_refusal_leaves_what_was_handed_in(self):
        book = book_of(*self.BOOK)
        lines = list(book)
        for changes in [[("t", [((1, 2), 1)]), ("x", [])], [("t", [((1, 2), 1)]), ("t", [((1,), 1)])],
                        [("u", rows(400)), ("u", rows(1, 400))]]:
            before = copied(changes)
            with self.assertRaises((NoName, NoHeap, TooMuch)):
                answers(book, changes)
            self.assertEqual(changes, before)
            self.assertEqual(book, lines)
        self.assertEqual(answers(book, [])[0], ("t", []))


class TooManyRows(AnswerCase):
    def test_of_a_table(self):
        for width in (1, 2, 8):
            self.check_edge([f"table t {width}"], [("t", wide(400, width))], [("t", wide(401, width))])
        self.check_edge(["table t 1"], [("t", rows(400, 0, -1))], [("t", rows(401, 0, -1))])
        self.check_edge(["table t 1"], [("t", rows(200)), ("t", rows(200, 200, -5))],
                        [("t", rows(200)), ("t", rows(201, 200, -5))])
        self.check_edge(["table t 1"], [("t", rows(1000)), ("t", rows(600, 400, -1))], [("t", rows(1000))])

    def test_rows_of_heaps_that_come_to_nothing_are_not_counted(self):
        self.check_edge(["table t 1"], [("t", rows(401)), ("t", [((7,), -1)])], [("t", rows(401)), ("t", [((7,), 1)])])
        self.check_edge(["table t 1"], [("t", rows(400)), ("t", rows(400))], [("t", rows(400)), ("t", rows(400, 1))])

    def test_of_a_table_that_no_line_asks_over(self):
        self.check_edge(["table t 1", "table u 1", "count n t all"], [("u", rows(400)), ("t", rows(400))],
                        [("u", rows(401))])

    def test_of_plus_and_less(self):
        for word in ("plus", "less"):
            self.check_edge(["table t 1", "table u 1", f"{word} n t u"], [("t", rows(200)), ("u", rows(200, 200))],
                            [("t", rows(200)), ("u", rows(201, 200))])
            self.check_edge(["table t 1", "table u 1", f"{word} n t u"], [("t", rows(400)), ("u", rows(399, 1, 3))],
                            [("t", rows(400)), ("u", rows(400, 1, 3))])

    def test_a_line_below_that_has_few_rows_does_not_help(self):
        for last in ["count m n all", "pick m n 0 is 0", "less m n n", "left m n n all"]:
            self.check_edge(["table t 1", "table u 1", "plus n t u", last], [("t", rows(200)), ("u", rows(200, 200))],
                            [("t", rows(200)), ("u", rows(201, 200))])

    def test_every_kind_of_line_may_have_four_hundred(self):
        lines = ["table t 1", "pick p t 0 above -1", "take k t 0,0", "once o t", "plus a t t", "less b t o",
                 "join j t t 0=0", "left l t b 0=0", "count c t 0", "sum s t 0 0", "least e t 0 0", "most m t 0 0",
                 "ring r 1", "rule r t 0"]
        book = book_of(*lines)
        told = answers(book, [("t", rows(400, 0, 2))])
        self.assertEqual([(name, len(heap)) for name, heap in told if name != "l"],
                         [(name, 400) for name in "tpkoabjcsemr"])
        self.assertEqual(dict(told)["l"], [])
        self.assertEqual(told, booked.answers_or_none(book, [("t", rows(400, 0, 2))]))


class TooManyThatMeet(AnswerCase):
    def keyed(self, counts):
        """Rows of two numbers, so many for each first one."""
        return [((key, number), 1) for key, count in enumerate(counts) for number in range(count)]

    def test_by_pairs_and_by_none(self):
        lines = ["table t 2", "table u 2"]
        self.check_edge(lines + ["join n t u 0=0"], [("t", self.keyed([20])), ("u", self.keyed([20]))],
                        [("t", self.keyed([20, 1])), ("u", self.keyed([20, 1]))])
        self.check_edge(lines + ["join n t u 0=0"], [("t", self.keyed([19, 39])), ("u", self.keyed([19, 1]))],
                        [("t", self.keyed([19, 40])), ("u", self.keyed([19, 1]))])
        self.check_edge(lines + ["join n t u all"], [("t", self.keyed([400])), ("u", self.keyed([1]))],
                        [("t", self.keyed([201])), ("u", self.keyed([2]))])
        self.check_edge(["table t 1", "join n t t all"], [("t", rows(20))], [("t", rows(21))])
        self.check_edge(["table t 1", "join n t t all"], [("t", rows(20, 0, -1))], [("t", rows(21, 0, -1))])

    def test_far_more(self):
        self.check_too_great(book_of("table t 1", "join n t t all"), [("t", rows(400))])
        self.check_too_great(book_of("table t 1", "join n t t all", "count m n all"), [("t", rows(400))])

    def test_what_is_left_over_is_not_bounded_by_how_many_meet(self):
        self.assertEqual(answers(book_of("table t 1", "left n t t all"), [("t", rows(400))])[1], ("n", []))
        told = answers(book_of("table t 1", "take k t 0,0", "left n t k all"), [("t", rows(400, 0, -1))])
        self.assertEqual(told[2], ("n", rows(400, 0, -1)))


class TooManyGrounds(AnswerCase):
    PATHS = ["table edge 2", "ring path 2", "rule path edge 0,1", "rule path path edge 1=0 0,3"]

    def edges(self, *lists):
        return [("edge", [(row, 1) for row in sorted(sum(lists, []))])]

    def test_of_one_rule_and_of_two(self):
        self.check_edge(["table t 1", "table u 1", "ring r 1", "rule r t 0", "rule r u 0"],
                        [("t", rows(200)), ("u", rows(200))], [("t", rows(200)), ("u", rows(201))])
        self.check_edge(["table t 1", "ring r 1", "rule r t 0", "rule r r 0"], [("t", rows(200))], [("t", rows(201))])
        self.check_edge(["table t 1", "ring r 1", "rule r t t all 1"], [("t", rows(20))], [("t", rows(21))])

    def test_of_rings_that_go_round(self):
        self.check_edge(self.PATHS, self.edges(chain(27), lone(22)), self.edges(chain(27), lone(23)))

    def test_rows_that_are_not_there_give_none(self):
        self.check_edge(["table t 1", "ring r 1", "rule r t 0", "rule r r 0"],
                        [("t", rows(200) + rows(200, 200, -1))], [("t", rows(201) + rows(199, 201, -1))])

    def test_rules_of_one_knot_are_counted_together_those_of_two_are_not(self):
        apart = ["table t 1", "ring r 1", "rule r t 0", "ring s 1", "rule s t 0"]
        told = answers(book_of(*apart), [("t", rows(400))])
        self.assertEqual(told, [(name, rows(400)) for name in "trs"])
        together = ["table t 1", "ring r 1", "ring s 1", "rule r t 0", "rule s t 0"]
        self.check_edge(together, [("t", rows(200))], [("t", rows(201))])

    def test_a_ring_that_no_line_asks_over_and_one_with_few_rows(self):
        self.check_edge(["table t 1", "ring r 1", "rule r t t all 0", "count n r all"], [("t", rows(20))],
                        [("t", rows(21))])
        self.check_too_great(book_of("table t 1", "ring r 1", "rule r t t all 0"), [("t", rows(400))])


class NotSmall(AnswerCase):
    def test_numbers_of_a_table(self):
        for width in (1, 3, 8):
            for place in range(width):
                for sign in (1, -1):
                    row = [0] * width
                    row[place] = sign * SMALL
                    small = tuple(row)
                    row[place] = sign * NOT_SMALL
                    self.check_edge([f"table t {width}"], [("t", [(small, 1)])], [("t", [(tuple(row), 1)])])
        self.check_too_great(book_of("table t 1"), [("t", [((GREAT,), 1)])])
        self.check_too_great(book_of("table t 1", "table u 1"), [("t", [((1,), 1)]), ("u", [((-GREAT,), 1)])])

    def test_weights_of_a_table(self):
        for sign in (1, -1):
            self.check_edge(["table t 1"], [("t", [((1,), sign * SMALL)])], [("t", [((1,), sign * NOT_SMALL)])])
            self.check_edge(["table t 1"], [("t", [((1,), sign * SMALL)])],
                            [("t", [((1,), sign * SMALL)]), ("t", [((1,), sign)])])
            self.check_edge(["table t 1"], [("t", [((1,), 1), ((2,), sign * SMALL)])],
                            [("t", [((1,), 1), ((2,), sign * NOT_SMALL)])])
        self.check_too_great(book_of("table t 1"), [("t", [((1,), GREAT)])])

    def test_what_comes_to_nothing_or_to_small_ones_is_let_be(self):
        book = book_of("table t 1", "count n t all")
        self.assertEqual(answers(book, [("t", [((GREAT,), 1)]), ("t", [((GREAT,), -1)])]), [("t", []), ("n", [])])
        self.assertEqual(answers(book, [("t", [((1,), GREAT)]), ("t", [((1,), 1 - GREAT)])]),
                         [("t", [((1,), 1)]), ("n", [((1,), 1)])])
        self.check_edge(["table t 1"], [("t", [((1,), NOT_SMALL)]), ("t", [((1,), -1)])], [("t", [((1,), NOT_SMALL)])])

    def test_weights_of_lines(self):
        self.check_edge(["table t 2", "take n t 0"], [("t", [((1, 1), SMALL - 1), ((1, 2), 1)])],
                        [("t", [((1, 1), SMALL), ((1, 2), 1)])])
        two = ["table t 1", "table u 1"]
        self.check_edge(two + ["plus n t u"], [("t", [((1,), SMALL - 1)]), ("u", [((1,), 1)])],
                        [("t", [((1,), SMALL)]), ("u", [((1,), 1)])])
        self.check_edge(two + ["less n t u"], [("t", [((1,), 1 - SMALL)]), ("u", [((1,), 1)])],
                        [("t", [((1,), -SMALL)]), ("u", [((1,), 1)])])
        self.check_edge(two + ["join n t u all"], [("t", [((1,), 10 ** 30)]), ("u", [((1,), 1 - 10 ** 30)])],
                        [("t", [((1,), 10 ** 30)]), ("u", [((1,), -10 ** 30)])])

    def test_numbers_of_groups(self):
        self.check_edge(["table t 1", "count n t all"], [("t", [((1,), SMALL - 1), ((2,), 1)])],
                        [("t", [((1,), SMALL), ((2,), 1)])])
        self.check_edge(["table t 1", "sum n t 0 all"], [("t", [((1,), SMALL)])], [("t", [((2,), 5 * 10 ** 59)])])
        self.check_edge(["table t 1", "sum n t 0 all"], [("t", [((-10 ** 30,), 10 ** 30 - 1)])],
                        [("t", [((-10 ** 30,), 10 ** 30)])])
        self.check_edge(["table t 1", "sum n t 0 0"], [("t", [((1,), SMALL)])], [("t", [((2,), SMALL)])])

    def test_a_line_below_that_is_small_does_not_help(self):
        for last in ["count m n all", "once m n", "less m n n", "pick m n 0 is 7"]:
            self.check_edge(["table t 1", "plus n t t", last], [("t", [((1,), 5 * 10 ** 59 - 1)])],
                            [("t", [((1,), 5 * 10 ** 59)])])

    def test_small_numbers_of_every_line(self):
        book = book_of("table t 1", "once o t", "least l t 0 all", "most m t 0 all", "ring r 2", "rule r t t all 1,0",
                       "pick p t 0 same 0", "left f t o 0=0")
        changes = [("t", [((-SMALL,), SMALL), ((SMALL,), SMALL)])]
        self.assertEqual(answers(book, changes), booked.answers_or_none(book, changes))


# How each word is asked: of the told answers of the lines it names, and of what else stands in its line.
ASKED = {
    "pick": lambda one, *check: picked(one, check), "take": taken, "once": once, "plus": plus, "less": less,
    "join": joined, "left": left_over, "count": counted, "sum": summed, "least": least, "most": most,
}


def answer_by_parts(line, told):
    """What asks, joins and groups tell for a line over the told answers of the lines that it names."""
    sources = 2 if line[0] in ("plus", "less", "join", "left") else 1
    return ASKED[line[0]](*[told[name] for name in line[2:2 + sources]], *line[2 + sources:])


class RandomBooks(AnswerCase):
    def samples(self, count):
        for source in seeds(count):
            text = booked.random_book(source)
            for turn in range(3):
                changes = booked.random_changes(source, booked.book_or_none(text), source.choice([3, 8, 20, 60]))
                yield text, changes

    def test_answers_reckoned_another_way(self):
        refused = 0
        for text, changes in self.samples(250):
            with self.subTest(text=text, changes=changes):
                book = read_book(text)
                told = answers_or_none(book, changes)
                refused += told is None
                self.assertEqual(told, booked.answers_or_none(book, changes))
        self.assertGreater(refused, 3)

    def test_a_lines_answer_is_told_over_the_answers_of_the_lines_it_names(self):
        for text, changes in self.samples(100):
            book = read_book(text)
            told = dict(answers_or_none(book, changes) or [])
            for number, line in enumerate(book if told else []):
                word, name = line[:2]
                if word == "table":
                    pairs = [pair for table, heap in changes if table == name for pair in heap]
                    self.assertEqual(told[name], heap_of(pairs))
                elif word == "ring" and (number == 0 or book[number - 1][0] != "ring"):
                    rings, rules = booked.knot_at(book, number)
                    given = [(known, rows_there(told[known])) for known in told if known not in rings]
                    for ring, ring_rows in standstill(rings, rules, given):
                        self.assertEqual(told[ring], [(row, 1) for row in ring_rows])
                elif word not in ("ring", "rule"):
                    self.assertEqual(told[name], answer_by_parts(line, told))

    def test_answers_are_of_the_told_kinds(self):
        for text, changes in self.samples(60):
            book = read_book(text)
            widths = booked.widths_of(book)
            told = answers_or_none(book, changes)
            if told is not None:
                self.assertIs(type(told), list)
                self.assertEqual([pair[0] for pair in told], [line[1] for line in book if line[0] != "rule"])
                for pair in told:
                    self.assertIs(type(pair), tuple)
                    self.assertEqual(len(pair), 2)
                    self.assertIs(type(pair[0]), str)
                    check_plain_heap(self, pair[1], widths[pair[0]])


class AskersOwn(AnswerCase):
    BOOK = ["table t 1", "table u 1", "pick p t 0 above -9", "take k t 0", "once o t", "plus a t u", "less b t u",
            "left l t u all", "ring r 1", "ring s 1", "rule r t 0", "rule s r 0", "once q r", "count c t 0"]

    def test_nothing_that_is_handed_in_is_changed(self):
        for source in seeds(40):
            book = read_book(booked.random_book(source))
            changes = booked.random_changes(source, book)
            book_before, changes_before = list(book), copied(changes)
            answers_or_none(book, changes)
            self.assertEqual(book, book_before)
            self.assertEqual(changes, changes_before)

    def test_what_was_told_stays(self):
        for heap in [rows(3), [], rows(2, 0, -1)]:
            book = book_of(*self.BOOK)
            changes = [("t", heap)]
            told = answers(book, changes)
            before = copied(told)
            other = answers(book, changes)
            spoiled(changes)
            book.reverse()
            self.assertEqual(told, before)
            spoiled(other)
            self.assertEqual(told, before)

    def test_no_two_told_heaps_are_one_list(self):
        for heap in [rows(3), []]:
            told = answers(book_of(*self.BOOK), [("t", heap)])
            self.assertEqual(len({id(one) for name, one in told} | {id(heap)}), len(told) + 1)

    def test_a_later_answer_asks_nothing_of_an_earlier_one(self):
        book = book_of(*self.BOOK)
        first = answers(book, [("t", rows(3))])
        empty = answers(book, [])
        self.assertEqual(empty, [(name, []) for name, heap in first])
        spoiled(empty)
        spoiled(first)
        self.assertEqual(answers(book, [("u", random_heap(seeds(1)[0], 1))])[0], ("t", []))
        self.assertEqual(answers(book, [("t", rows(3))])[0], ("t", rows(3)))


if __name__ == "__main__":
    unittest.main()
