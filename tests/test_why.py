"""Why a row is there: promises 32 and 33, and what 2 says of it."""

import inspect
import unittest

import booked
from deltahouse.books import read_book
from deltahouse.errors import NoName, NoRow, TooMuch
from deltahouse.plain import answers
from deltahouse.texts import read_row
from deltahouse.why import why
from housed import EVERY, PATHS, book_of, check_paper, names_in, random_bundle, read_changes, rows, told_or_refusal
from ringed import chain, copied, spoiled
from samples import Odd, check_refused, seeds, wrong_things

ROUND = ["table in 1", "table step 2", "ring r 1", "rule r in 0", "rule r r step 0=0 2"]


class WhyCase(unittest.TestCase):
    def asked(self, lines, changes, name, row):
        """The paper for a row, which must be one."""
        book = book_of(*lines)
        told = answers(book, read_changes(*changes))
        paper = why(book, told, name, read_row(row))
        check_paper(self, book, told, name, read_row(row), paper)
        return paper

    def last(self, lines, changes, name, row):
        """The parts of the last step, rows as texts behind their names."""
        parts = self.asked(lines, changes, name, row)[-1][3]
        return [(weight, [owner + " " + ",".join(map(str, member)) for owner, member in pairs])
                for weight, pairs in parts]


class Interface(unittest.TestCase):
    def test_names_and_arguments(self):
        self.assertEqual(list(inspect.signature(why).parameters), ["book", "told", "name", "row"])


class EachKindOfLine(WhyCase):
    def test_table(self):
        for row, weight in [("1", 3), ("2", -4)]:
            self.assertEqual(self.asked(["table t 1"], [("t", "1*3 2*-4")], "t", row),
                             [("t", read_row(row), weight, [])])

    def test_pick(self):
        lines = ["table t 2", "pick p t 0 same 1"]
        self.assertEqual(self.asked(lines, [("t", "1,1*-3 1,2*1")], "p", "1,1"),
                         [("t", (1, 1), -3, []), ("p", (1, 1), -3, [(-3, [("t", (1, 1))])])])

    def test_left(self):
        lines = ["table t 2", "table u 1", "left l t u 0=0"]
        self.assertEqual(self.asked(lines, [("t", "1,1*-3 2,1*1"), ("u", "1*-1 2*1")], "l", "1,1"),
                         [("t", (1, 1), -3, []), ("l", (1, 1), -3, [(-3, [("t", (1, 1))])])])

    def test_once(self):
        self.assertEqual(self.asked(["table t 1", "once o t"], [("t", "1*7")], "o", "1"),
                         [("t", (1,), 7, []), ("o", (1,), 1, [(1, [("t", (1,))])])])

    def test_take(self):
        lines = ["table t 2", "take k t 0"]
        tables = [("t", "1,1*2 1,2*-3 1,9*5 2,2*1")]
        self.assertEqual(self.last(lines, tables, "k", "1"), [(2, ["t 1,1"]), (-3, ["t 1,2"]), (5, ["t 1,9"])])
        self.assertEqual(self.last(lines, tables, "k", "2"), [(1, ["t 2,2"])])
        self.assertEqual(self.last(["table t 2", "take k t 1,1,0"], tables, "k", "2,2,1"), [(-3, ["t 1,2"])])

    def test_plus_and_less(self):
        tables = [("t", "1*1 2*2"), ("u", "2*5 3*-4")]
        for word, sign in [("plus", 1), ("less", -1)]:
            lines = ["table t 1", "table u 1", f"{word} a t u"]
            self.assertEqual(self.last(lines, tables, "a", "1"), [(1, ["t 1"])])
            self.assertEqual(self.last(lines, tables, "a", "2"), [(2, ["t 2"]), (sign * 5, ["u 2"])])
            self.assertEqual(self.last(lines, tables, "a", "3"), [(sign * -4, ["u 3"])])
        self.assertEqual(self.last(["table t 1", "plus a t t"], tables[:1], "a", "2"), [(2, ["t 2"]), (2, ["t 2"])])

    def test_join(self):
        lines = ["table t 2", "table u 1", "join j t u 0=0", "join i u t 0=0"]
        tables = [("t", "1,5*2 1,6*-3"), ("u", "1*-7")]
        self.assertEqual(self.last(lines, tables, "j", "1,5,1"), [(-14, ["t 1,5", "u 1"])])
        self.assertEqual(self.last(lines, tables, "i", "1,1,6"), [(21, ["u 1", "t 1,6"])])
        self.assertEqual(self.last(["table u 1", "join j u u all"], tables[1:], "j", "1,1"), [(49, ["u 1", "u 1"])])

    def test_count_and_sum(self):
        tables = [("t", "1,5*2 1,6*-2 2,4*1 3,0*-1")]
        for line, told in [("count n t 0", ["1,0", "2,1", "3,-1"]), ("sum n t 1 0", ["1,-2", "2,4", "3,0"])]:
            for row, members in zip(told, [["t 1,5", "t 1,6"], ["t 2,4"], ["t 3,0"]]):
                self.assertEqual(self.last(["table t 2", line], tables, "n", row), [(1, members)])
        every = ["t 1,5", "t 1,6", "t 2,4", "t 3,0"]
        self.assertEqual(self.last(["table t 2", "count n t all"], tables, "n", "0"), [(1, every)])
        self.assertEqual(self.last(["table t 2", "sum n t 0 all"], tables, "n", "-1"), [(1, every)])

    def test_least_and_most(self):
        tables = [("t", "1,0,5*-2 1,1,5*2 1,2,6*1 1,3,5*1 1,4,6*-1 2,1,4*1")]
        for line, row, members in [
            ("least n t 2 0", "1,5", ["t 1,1,5", "t 1,3,5"]), ("most n t 2 0", "1,6", ["t 1,2,6"]),
            ("least n t 2 0", "2,4", ["t 2,1,4"]), ("least n t 2 all", "4", ["t 2,1,4"]),
            ("most n t 0 all", "2", ["t 2,1,4"]), ("least n t 0 0", "1,1", ["t 1,1,5", "t 1,2,6", "t 1,3,5"]),
        ]:
            self.assertEqual(self.last(["table t 3", line], tables, "n", row), [(1, members)])

    def test_a_ring_by_a_rule_of_one_source_and_of_two(self):
        tables = [("edge", "1,2*5 2,3*1")]
        lines = PATHS.split("\n")
        self.assertEqual(self.last(lines, tables, "path", "1,2"), [(1, ["edge 1,2"])])
        self.assertEqual(self.last(lines, tables, "path", "1,3"), [(1, ["path 1,2", "edge 2,3"])])
        self.assertEqual(len(self.asked(lines, tables, "path", "1,3")), 4)

    def test_a_ring_by_one_of_several_rules(self):
        lines = ["table t 1", "table u 1", "ring r 1", "rule r t 0", "rule r u 0", "rule r t u all 1"]
        for tables, grounds in [([("t", "1*1")], [["t 1"]]), ([("u", "1*1")], [["u 1"]]),
                                ([("t", "1*1"), ("u", "1*1")], [["t 1"], ["u 1"], ["t 1", "u 1"]]),
                                ([("t", "2*1"), ("u", "1*1")], [["u 1"], ["t 2", "u 1"]])]:
            self.assertIn(self.last(lines, tables, "r", "1"), [[(1, ground)] for ground in grounds])

    def test_a_ring_beside_a_ring(self):
        lines = ["table t 1", "ring r 1", "ring s 2", "rule s r r all 0,1", "rule r t 0"]
        paper = self.asked(lines, [("t", "1*1 2*1")], "s", "1,2")
        self.assertEqual(paper[-1], ("s", (1, 2), 1, [(1, [("r", (1,)), ("r", (2,))])]))
        self.assertEqual(len(paper), 5)


class Papers(WhyCase):
    def test_rows_that_ground_each_other(self):
        tables = [("in", "1*1"), ("step", "1,2*1 2,3*1 3,1*1 3,3*1")]
        for row in ("1", "2", "3"):
            self.asked(ROUND, tables, "r", row)
        self.assertEqual(self.last(ROUND, tables, "r", "1"), [(1, ["in 1"])])
        self.assertEqual(self.last(ROUND, tables, "r", "3"), [(1, ["r 2", "step 2,3"])])

    def test_a_ring_row_whose_own_rule_asks_over_itself(self):
        lines = ["table t 1", "ring r 1", "rule r r 0", "rule r r r all 1", "rule r t 0"]
        self.assertEqual(self.asked(lines, [("t", "1*1")], "r", "1"),
                         [("t", (1,), 1, []), ("r", (1,), 1, [(1, [("t", (1,))])])])

    def test_two_rings_that_ground_each_other(self):
        lines = ["table t 1", "ring r 1", "ring s 1", "rule r s 0", "rule s r 0", "rule s t 0"]
        self.assertEqual(self.asked(lines, [("t", "1*1")], "r", "1"), [
            ("t", (1,), 1, []), ("s", (1,), 1, [(1, [("t", (1,))])]), ("r", (1,), 1, [(1, [("s", (1,))])]),
        ])

    def test_a_step_that_two_later_ones_need_stands_once(self):
        lines = ["table t 1", "once o t", "plus a t t", "less b o a", "join j o a 0=0", "join i j b 0=0"]
        paper = self.asked(lines, [("t", "1*3 2*1")], "i", "1,1,1")
        self.assertEqual(sorted(step[0] for step in paper), ["a", "b", "i", "j", "o", "t"])

    def test_only_what_is_needed(self):
        lines = ["table t 1", "table u 1", "once o t", "count n t all", "pick p o 0 is 1", "once q p"]
        paper = self.asked(lines, [("t", "1*1 2*1"), ("u", "1*1")], "p", "1")
        self.assertEqual([step[:2] for step in paper], [("t", (1,)), ("o", (1,)), ("p", (1,))])

    def test_a_row_that_stands_in_its_sources_with_a_weight_below_0(self):
        lines = ["table t 1", "table u 1", "less b t u", "once o b"]
        self.assertEqual(self.last(lines, [("u", "1*-2")], "b", "1"), [(2, ["u 1"])])
        self.assertEqual([step[2] for step in self.asked(lines, [("u", "1*-2")], "o", "1")], [-2, 2, 1])

    def test_a_long_way(self):
        tables = [("step", " ".join(f"{one},{other}*1" for one, other in chain(199))), ("in", "0*1")]
        paper = self.asked(ROUND, tables, "r", "199")
        self.assertEqual(len(paper), 200 + 199 + 1)

    def test_a_chain_of_lines(self):
        lines = ["table a 1"]
        for name, above in zip("bcdefghijklmnopqrstuvwx", "abcdefghijklmnopqrstuvw"):
            lines.append(f"plus {name} {above} {above}")
        self.assertEqual(len(self.asked(lines, [("a", "1*1")], "x", "1")), 24)

    def test_four_hundred_rows_of_a_group(self):
        book = book_of("table t 1", "once o t", "count n o all", "count m t all")
        told = answers(book, [("t", rows(400, 0, 2))])
        for name, row, count in [("n", (400,), 801), ("m", (800,), 401)]:
            paper = why(book, told, name, row)
            check_paper(self, book, told, name, row, paper)
            self.assertEqual(len(paper), count)

    def test_every_row_of_every_line(self):
        book = read_book(EVERY)
        told = answers(book, read_changes(("t", "1,1*1 1,2*1 2,-3*-1 2,5*2 5,1*1"), ("u", "1*1 2*-1 3*2")))
        for name, heap in told:
            self.assertNotEqual(heap, [], name)
            for row, weight in heap:
                check_paper(self, book, told, name, row, why(book, told, name, row))

    def test_random_books(self):
        asked = {}
        for source in seeds(150):
            book = read_book(booked.random_book(source))
            told = told_or_refusal(answers, book, random_bundle(source, book, source.choice([4, 12])) * 2)
            for name, heap in [] if told is TooMuch else told:
                for row, weight in source.sample(heap, min(3, len(heap))):
                    check_paper(self, book, told, name, row, why(book, told, name, row))
                    word = next(line[0] for line in book if line[1] == name)
                    asked[word] = asked.get(word, 0) + 1
        self.assertEqual(sorted(asked), sorted(set(booked.WORDS) - {"rule"}))
        self.assertGreater(min(asked.values()), 5)


class Refused(WhyCase):
    BOOK = ["table t 2", "table u 1", "once o t", "ring r 2", "rule r t 1,0"]
    NAMES = ["", "q", "rule", "T", "t ", "table", "once"]

    def told(self):
        book = book_of(*self.BOOK)
        return book, answers(book, read_changes(("t", "0,1*1 1,1*-2 1,2*3")))

    def test_names_that_no_line_has(self):
        book, told = self.told()
        for name in self.NAMES + [thing for thing in wrong_things() if not isinstance(thing, str)]:
            for row in [(0, 1), (9, 9), None, "0,1", [0, 1], Odd()]:
                check_refused(self, NoName, why, book, told, name, row)

    def test_rows_without_a_weight(self):
        book, told = self.told()
        for name, row in [("t", (9, 9)), ("t", (0, 0)), ("o", (1, 1)), ("o", (9, 9)), ("r", (0, 1)), ("r", (1, 2)),
                          ("u", (1,)), ("u", (0,)), ("t", (1,)), ("t", (0, 1, 0)), ("t", ()), ("t", (0, 1, 0, 1))]:
            check_refused(self, NoRow, why, book, told, name, row)

    def test_what_is_no_row(self):
        book, told = self.told()
        for name in ["t", "o", "u", "r"]:
            for thing in wrong_things() + [[0, 1], [1, 0], (0, True), (False, 1), (False, True), (True, False),
                                           (0.0, 1.0), (1.0, 0), ("0", "1"), (0, None), (0, Odd()), (0, [1]), ((0, 1),),
                                           "0,1", ((0, 1), 1), {0: 1}, [(0, 1)], ([0], 1)]:
                check_refused(self, NoRow, why, book, told, name, thing)

    def test_a_truth_in_a_row_of_each_place(self):
        book = book_of("table t 1", "table u 3")
        told = answers(book, read_changes(("t", "0*1 1*1"), ("u", "0,0,0*1 1,1,1*1")))
        for truth in (True, False):
            check_refused(self, NoRow, why, book, told, "t", (truth,))
            for place in range(3):
                row = [int(truth)] * 3
                row[place] = truth
                check_refused(self, NoRow, why, book, told, "u", tuple(row))

    def test_empty_answers(self):
        book = read_book(EVERY)
        for name in names_in(book):
            for row in [(), (0,), (0, 0), (1, 1, 1), None, []]:
                check_refused(self, NoRow, why, book, answers(book, []), name, row)


class AskersOwn(unittest.TestCase):
    def papers(self):
        book = read_book(EVERY)
        told = answers(book, read_changes(("t", "1,1*1 1,2*1 2,-3*-1 2,5*2 5,1*1"), ("u", "1*1 2*-1 3*2")))
        return book, told, [(name, row) for name, heap in told for row, weight in heap]

    def test_nothing_that_is_handed_in_is_changed(self):
        book, told, asked = self.papers()
        before, known = copied(book), copied(told)
        for name, row in asked:
            spoiled(why(book, told, name, row))
            self.assertEqual(book, before)
            self.assertEqual(told, known)

    def test_what_was_told_stays(self):
        book, told, asked = self.papers()
        papers = [why(book, told, name, row) for name, row in asked]
        before = copied(papers)
        others = [why(book, told, name, row) for name, row in asked]
        spoiled(others)
        spoiled(told)
        spoiled(book)
        self.assertEqual(papers, before)

    def test_no_two_lists_of_a_paper_are_one(self):
        book, told, asked = self.papers()
        for name, row in asked:
            paper = why(book, told, name, row) + why(book, told, name, row)
            lists = [step[3] for step in paper] + [part[1] for step in paper for part in step[3]]
            self.assertEqual(len({id(part) for part in lists}), len(lists))


if __name__ == "__main__":
    unittest.main()
