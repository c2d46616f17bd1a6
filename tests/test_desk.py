"""The desk: promises 34 and 35, and what 2 and 3 say of it."""

import inspect
import re
import unittest

import booked
from deltahouse.books import read_book
from deltahouse.desk import Desk
from deltahouse.errors import NoBook, NoDeed, NoHeap, NoMoment, NoName, NoRow, NoText, TooLate, TooMuch
from deltahouse.plain import answers
from deltahouse.texts import read_row, show_heap
from housed import EVERY, LAST, PATHS, Reckoned, check_paper, names_in, told_or_refusal, turned_bundle
from keeping import summed_up
from samples import NO_NUMBERS, SIXTY, SIXTY_ONE, check_refused, random_heap, seeds, wrong_things

TWO = "table t 1\ntable u 2\nonce o t\nring r 1\nrule r t 0"


def desk_of(text, *rows):
    desk = Desk(text)
    for row in rows:
        desk.say(row)
    return desk


def all_of(desk, text, *moments):
    """All answers at these moments, as texts."""
    return [desk.say(f"ask {moment} {name}") for moment in moments for name in names_in(read_book(text))]


class DeskCase(unittest.TestCase):
    def check_talk(self, text, talk):
        desk = Desk(text)
        for row, answer in talk:
            if isinstance(answer, str):
                self.assertEqual(desk.say(row), answer, row)
            else:
                check_refused(self, answer, desk.say, row)

    def check_refusals(self, desk, refusal, rows):
        for row in rows:
            with self.subTest(row=row):
                check_refused(self, refusal, desk.say, row)


class Interface(unittest.TestCase):
    def test_names_and_arguments(self):
        self.assertEqual(list(inspect.signature(Desk).parameters), ["text"])
        self.assertEqual(list(inspect.signature(Desk.say).parameters), ["self", "row"])


class Made(unittest.TestCase):
    def test_what_is_no_book(self):
        for text in ["", "table", "table t 9", "table t 1\n", "once o t", "table t 1\nonce t t", TWO + "\nrule o t 0"]:
            check_refused(self, NoBook, Desk, text)
        for thing in wrong_things() + [read_book(TWO)]:
            check_refused(self, NoBook, Desk, thing)

    def test_of_a_book(self):
        for text in [TWO, EVERY, PATHS, "table t 1", "ring r 1"]:
            self.assertEqual(set(all_of(Desk(text), text, 0, 5, LAST)), {""})


class In(DeskCase):
    def test_what_is_told_line_by_line(self):
        self.check_talk(PATHS, [
            ("in 5 edge 1,2*1", "5 edge 1,2*1\n5 path 1,2*1\n5 ends 1,1*1"),
            ("in 3 edge 2,3*1", "3 edge 2,3*1\n3 path 2,3*1\n3 ends 2,1*1\n5 path 1,3*1\n5 ends 1,1*-1 1,2*1"),
            ("in 5 edge 2,3*4 1,2*-1", "5 edge 1,2*-1 2,3*4\n5 path 1,2*-1 1,3*-1\n5 ends 1,2*-1"),
        ])

    def test_several_changes_are_one_bundle(self):
        self.check_talk(TWO, [
            ("in 1 t 1*1; u 1,2*1", "1 t 1*1\n1 u 1,2*1\n1 o 1*1\n1 r 1*1"),
            ("in 1 u 1,2*-1; t 1*1; t 2*1", "1 t 1*1 2*1\n1 u 1,2*-1\n1 o 2*1\n1 r 2*1"),
            ("in 1 t 1*-2; t 1*2", "nothing"),
            ("in 1 t " + "; t ".join(f"{number}*1" for number in range(10, 15)),
             "\n".join("1 " + name + "".join(f" {number}*1" for number in range(10, 15)) for name in "tor")),
        ])

    def test_a_bundle_may_pass_the_bound_on_the_way(self):
        many = " ".join(f"{number}*1" for number in range(300))
        more = " ".join(f"{number}*1" for number in range(300, 600))
        back = " ".join(f"{number}*-1" for number in range(300))
        self.check_talk("table t 1", [
            (f"in 1 t {many}", f"1 t {many}"), (f"in 1 t {more}", TooMuch),
            (f"in 1 t {more}; t {back}", f"1 t {back} {more}"),
        ])

    def test_heaps_without_signs(self):
        self.check_talk(TWO, [
            ("in 0 t ", "nothing"), ("in 0 u ", "nothing"), ("in 0 t ; u ", "nothing"), ("in 0 t ; t ; t ", "nothing"),
            ("in 0 t ; u 1,1*1", "0 u 1,1*1"), ("in 0 t 1*1; u ", "0 t 1*1\n0 o 1*1\n0 r 1*1"),
        ])

    def test_heaps_written_in_any_order(self):
        self.check_talk("table t 1", [
            ("in 0 t 3*1 1*2 3*-4", "0 t 1*2 3*-3"), ("in 0 t 3*1 3*-1", "nothing"),
            ("in 0 t 1*-2 3*3", "0 t 1*-2 3*3"),
        ])

    def test_a_heap_that_comes_to_nothing_is_one_of_every_width(self):
        self.check_talk("table t 1", [("in 0 t 1,2*1 1,2*-1", "nothing"), ("in 0 t 1,2*1", NoHeap)])

    def test_a_told_weight_may_have_more_than_sixty_figures(self):
        double = str(2 * LAST)
        self.check_talk("table t 1", [
            (f"in 0 t 1*{SIXTY}", f"0 t 1*{SIXTY}"), (f"in 0 t 1*-{SIXTY} 1*-{SIXTY}", f"0 t 1*-{double}"),
            ("ask 0 t", f"1*-{SIXTY}"), ("in 0 t 1*-1", TooMuch), ("back", f"0 t 1*{double}"),
        ])

    def test_moments_as_they_are_written(self):
        for moment in ["0", "1", "10", "100", SIXTY, "1" + "0" * 59]:
            self.check_talk("table t 1", [(f"in {moment} t 1*1", f"{moment} t 1*1"), (f"ask {moment} t", "1*1"),
                                          (f"why {moment} t 1", "t 1*1"), (f"settle {moment}", "ok"),
                                          (f"in {moment} t ", TooLate)])


class AskAndSettle(DeskCase):
    def test_answers_at_moments(self):
        self.check_talk(TWO, [
            ("ask 5 t", ""), ("in 5 t 2*-1 1*3", "5 t 1*3 2*-1\n5 o 1*1\n5 r 1*1"), ("ask 4 t", ""),
            ("ask 5 t", "1*3 2*-1"), ("ask 5 o", "1*1"), ("ask 6 r", "1*1"), ("ask 5 u", ""),
            (f"ask {SIXTY} t", "1*3 2*-1"),
        ])

    def test_settled(self):
        self.check_talk(TWO, [
            ("in 5 t 1*1", "5 t 1*1\n5 o 1*1\n5 r 1*1"), ("settle 5", "ok"), ("ask 4 t", TooLate), ("ask 5 t", "1*1"),
            ("in 5 t 1*1", TooLate), ("in 4 t ", TooLate), ("settle 5", "ok"), ("settle 3", "ok"), ("settle 0", "ok"),
            ("in 6 t 1*1", "6 t 1*1"), ("why 4 t 1", TooLate), ("why 5 t 1", "t 1*1"), ("why 6 t 1", "t 1*2"),
            ("settle " + SIXTY, "ok"), ("in " + SIXTY + " t ", TooLate), ("ask 6 t", TooLate),
            ("ask " + SIXTY + " t", "1*2"),
        ])


class Back(DeskCase):
    def test_nothing_to_take_back(self):
        self.check_talk(TWO, [
            ("back", NoDeed), ("ask 0 t", ""), ("back", NoDeed), ("settle 3", "ok"), ("back", NoDeed),
            ("in 3 t 1*1", TooLate), ("back", NoDeed), ("in 4 q 1*1", NoName), ("in 4 t 1*", NoText), ("in 4", NoDeed),
            ("in x t 1*1", NoMoment), ("in 4 u 1*1", NoHeap), ("back", NoDeed),
            ("in 4 t 1*1", "4 t 1*1\n4 o 1*1\n4 r 1*1"),
            ("back", "4 t 1*-1\n4 o 1*-1\n4 r 1*-1"), ("back", NoDeed), ("back", NoDeed),
        ])

    def test_the_last_first(self):
        self.check_talk("table t 1\nonce o t", [
            ("in 5 t 1*1", "5 t 1*1\n5 o 1*1"), ("in 3 t 1*2", "3 t 1*2\n3 o 1*1\n5 o 1*-1"),
            ("in 7 t 1*-3", "7 t 1*-3\n7 o 1*-1"), ("back", "7 t 1*3\n7 o 1*1"),
            ("back", "3 t 1*-2\n3 o 1*-1\n5 o 1*1"),
            ("back", "5 t 1*-1\n5 o 1*-1"), ("back", NoDeed), ("ask 9 t", ""),
        ])

    def test_what_was_taken_back_is_no_bundle_to_take_back(self):
        self.check_talk("table t 1", [
            ("in 1 t 1*1", "1 t 1*1"), ("in 1 t 2*1", "1 t 2*1"), ("back", "1 t 2*-1"), ("in 1 t 3*1", "1 t 3*1"),
            ("back", "1 t 3*-1"), ("back", "1 t 1*-1"), ("back", NoDeed),
        ])

    def test_a_bundle_of_several_changes(self):
        self.check_talk(TWO, [
            ("in 1 t 1*1; u 1,2*-3; t 2*1", "1 t 1*1 2*1\n1 u 1,2*-3\n1 o 1*1 2*1\n1 r 1*1 2*1"),
            ("back", "1 t 1*-1 2*-1\n1 u 1,2*3\n1 o 1*-1 2*-1\n1 r 1*-1 2*-1"),
        ])

    def test_a_bundle_that_told_nothing(self):
        self.check_talk("table t 1", [
            ("in 1 t 1*1", "1 t 1*1"), ("in 1 t ", "nothing"), ("in 2 t 1*1 1*-1", "nothing"), ("back", "nothing"),
            ("back", "nothing"), ("back", "1 t 1*-1"), ("back", NoDeed),
        ])

    def test_behind_a_refused_in(self):
        self.check_talk(TWO, [
            ("in 1 t 1*1", "1 t 1*1\n1 o 1*1\n1 r 1*1"), ("in 1 q ", NoName), ("in 1 t 1,1*1", NoHeap),
            ("in 1 t x", NoText),
            ("in x t ", NoMoment), ("in 1 t" + "".join(f" {number}*1" for number in range(401)), TooMuch),
            ("back", "1 t 1*-1\n1 o 1*-1\n1 r 1*-1"), ("back", NoDeed),
        ])

    def test_at_a_settled_moment(self):
        self.check_talk("table t 1", [
            ("in 1 t 1*1", "1 t 1*1"), ("in 5 t 2*1", "5 t 2*1"), ("settle 5", "ok"), ("back", TooLate),
            ("back", TooLate),
            ("ask 5 t", "1*1 2*1"), ("in 6 t 3*1", "6 t 3*1"), ("back", "6 t 3*-1"), ("back", TooLate),
            ("back", TooLate),
            ("ask 6 t", "1*1 2*1"), ("in 7 t ", "nothing"), ("settle 7", "ok"), ("back", TooLate),
            ("ask 7 t", "1*1 2*1"),
        ])
        # The last one stays the last one, though the one ahead of it could be taken back.
        self.check_talk("table t 1", [
            ("in 9 t 1*1", "9 t 1*1"), ("in 1 t 2*1", "1 t 2*1"), ("settle 3", "ok"), ("back", TooLate),
            ("back", TooLate),
            ("ask 9 t", "1*1 2*1"), ("in 4 t 4*1", "4 t 4*1"), ("back", "4 t 4*-1"), ("back", TooLate),
        ])

    def test_while_there_are_sixteen_moments(self):
        rows = [(f"in {moment} t {moment}*1", f"{moment} t {moment}*1") for moment in range(16)]
        backs = [("back", f"{moment} t {moment}*-1") for moment in reversed(range(16))]
        self.check_talk("table t 1", rows + [("in 16 t ", TooMuch)] + backs + [
            ("back", NoDeed), ("in 16 t ", TooMuch), ("in 15 t ", "nothing"), ("settle 0", "ok"),
            ("in 16 t ", "nothing"),
            ("in 17 t ", TooMuch),
        ])


class Why(DeskCase):
    def test_lines_of_steps(self):
        rows = [("in 5 edge 1,2*3 2,3*1", "5 edge 1,2*3 2,3*1\n5 path 1,2*1 1,3*1 2,3*1\n5 ends 1,2*1 2,1*1")]
        self.check_talk(PATHS, rows + [
            ("why 5 edge 1,2", "edge 1,2*3"), ("why 7 path 2,3", "edge 2,3*1\npath 2,3*1 (1 edge 2,3)"),
            ("why 4 edge 1,2", NoRow), ("why 5 edge 1,3", NoRow), ("why 5 path 3,1", NoRow), ("why 5 path 1", NoRow),
        ])
        desk = desk_of(PATHS, rows[0][0])
        told = desk.say("why 5 path 1,3").split("\n")
        self.assertEqual(told[-1], "path 1,3*1 (1 path 1,2 edge 2,3)")
        self.assertEqual(sorted(told[:-1]), ["edge 1,2*3", "edge 2,3*1", "path 1,2*1 (1 edge 1,2)"])

    def test_each_kind_of_line(self):
        desk = desk_of(EVERY, "in 0 t 1,1*2 1,2*1 2,-3*-1; u 1*1 3*-1")
        for asked, last in [
            ("t 2,-3", "t 2,-3*-1"), ("p 1,1", "p 1,1*2 (2 t 1,1)"), ("k 1", "k 1*3 (2 t 1,1) (1 t 1,2)"),
            ("o 1", "o 1*1 (1 k 1)"), ("a 1", "a 1*4 (3 k 1) (1 u 1)"), ("b 1", "b 1*2 (3 k 1) (-1 u 1)"),
            ("b 3", "b 3*1 (1 u 3)"), ("a 3", "a 3*-1 (-1 u 3)"), ("j 1,1,1", "j 1,1,1*2 (2 t 1,1 u 1)"),
            ("l 2,-3", "l 2,-3*-1 (-1 t 2,-3)"), ("c 1,3", "c 1,3*1 (1 t 1,1 t 1,2)"),
            ("s 2,3", "s 2,3*1 (1 t 2,-3)"), ("e 1,1", "e 1,1*1 (1 t 1,1)"), ("m 1,2", "m 1,2*1 (1 t 1,2)"),
            ("x 1", "x 1*1 (1 u 1)"), ("y 2", "y 2*1 (1 x 1 t 1,2)"), ("x 2", "x 2*1 (1 y 2)"),
            ("z 2,1", "z 2,1*1 (1 y 2 y 1)"), ("n 4", "n 4*1 (1 z 1,1 z 1,2 z 2,1 z 2,2)"),
        ]:
            self.assertEqual(desk.say("why 0 " + asked).split("\n")[-1], last)

    def test_by_the_answers_at_the_moment(self):
        self.check_talk("table t 2\ntake k t 0", [
            ("in 5 t 1,1*1", "5 t 1,1*1\n5 k 1*1"), ("in 9 t 1,2*1", "9 t 1,2*1\n9 k 1*1"),
            ("why 4 k 1", NoRow), ("why 5 k 1", "t 1,1*1\nk 1*1 (1 t 1,1)"), ("why 8 k 1", "t 1,1*1\nk 1*1 (1 t 1,1)"),
            ("settle 5", "ok"), ("why 5 k 1", "t 1,1*1\nk 1*1 (1 t 1,1)"),
        ])
        desk = desk_of("table t 2\ntake k t 0", "in 5 t 1,1*1", "in 9 t 1,2*1")
        self.assertEqual(desk.say("why 9 k 1").split("\n")[-1], "k 1*2 (1 t 1,1) (1 t 1,2)")


class NoSuchDeed(DeskCase):
    def desk(self):
        return desk_of(TWO, "in 5 t 1*1; u 1,2*1")

    def test_what_is_no_text(self):
        desk = self.desk()
        self.check_refusals(desk, NoDeed, [thing for thing in wrong_things() if not isinstance(thing, str)])
        self.check_refusals(desk, NoDeed, [["back"], ("back",), b"back", ["ask", "5", "t"]])

    def test_other_words(self):
        self.check_refusals(self.desk(), NoDeed, [
            "", " ", "  ", "\n", "\t", ";", "; ", "x", "In 5 t 1*1", "ASK 5 t", "asks 5 t", "ask5 t", "inn 5 t 1*1",
            "i",
            "settled 5", "wh 5 t 1", "5", "5 t 1*1", "t 1*1", "nothing", "ok", "table t 1", "take_in 5 t 1*1", "back;",
            "backs", "Back", "in\t5 t 1*1", "ask\t5\tt", "settle\t5", "why\t5 t 1", "in\n5 t 1*1", "settle\n5",
            "back\n",
            "\nback", "back\nback", "\tback", "back\t", "answer 5 t", "say back",
        ])

    def test_words_too_few_and_too_many(self):
        self.check_refusals(self.desk(), NoDeed, [
            "in", "in 5", "in 5 t", "in t 1*1", "in 5 1*1", "ask", "ask 5", "ask t", "ask 5 t 1", "ask 5 t t",
            "settle", "settle 5 5", "settle 5 t", "why", "why 5", "why 5 t", "why 5 t 1 1", "why 5 t 1*1 x", "back 5",
            "back t", "back back", "why t 1",
        ])

    def test_blanks(self):
        self.check_refusals(self.desk(), NoDeed, [
            " in 5 t 1*1", " ask 5 t", " settle 5", " why 5 t 1", " back", "back ", "back  ", "  back", "ask 5 t ",
            "ask  5 t", "ask 5  t", "settle 5 ", "settle  5", " settle 5", "why 5 t 1 ", "why  5 t 1", "why 5  t 1",
            "why 5 t  1", "in ", "in 5 ", "in  ", "in  5", "in  t", "in 5 ; t 1*1", "in 5 t 1*1; ", "in 5 t 1*1; t",
            "in 5 t; t 1*1", "in 5 t;", "in 5 ;", "in 5 ; ", "in 5 t 1*1; ; t 1*1", "in 5 t; 1*1",
        ])

    def test_it_goes_ahead_of_all_else(self):
        desk = self.desk()
        desk.say("settle 5")
        self.check_refusals(desk, NoDeed, [
            "in x t", "in -1 q", "in 3 q", "in x t 1*1; q", "in x t 1*; t", "in 3 t;", "ask x q 1", "ask 3 q 1",
            "ask x",
            "settle x x", "settle -1 5", "why x q x x", "why 3 q 1 1", "why x q", "back x", "in x ", "in 3 q; t 1*1",
        ])

    def test_back_without_a_bundle(self):
        self.check_refusals(Desk(TWO), NoDeed, ["back", "back ", "back 5"])


class WordsWithoutSigns(DeskCase):
    """A word without signs is a word like others, but no moment, no name and no row."""

    def test_no_moment(self):
        self.check_refusals(desk_of(TWO, "in 5 t 1*1"), NoMoment, [
            "ask  t", "settle ", "why  t 1", "in  t 1*1", "in  5 t 1*1", "in  t ", "in   ", "in  q 1*", "why   ",
            "ask  ", "ask  q",
        ])

    def test_no_name(self):
        self.check_refusals(desk_of(TWO, "in 5 t 1*1"), NoName, [
            "ask 5 ", "why 5  1", "why 5  ", "why 5  x", "in 5  1*1", "in 5  ", "in 5  ; t 1*1", "in 5 t 1*1;  1*1",
            "in 5 t 1*1;  ",
        ])

    def test_no_row_and_no_heap(self):
        self.check_refusals(desk_of(TWO, "in 5 t 1*1"), NoText, [
            "why 5 t ", "why 5 o ", "in 5 t  ", "in 5 t  1*1", "in 5 t 1*1 ", "in 5 t 1*1  2*1", "in 5  t 1*1",
            "in 5 t 1*1;  t 1*1", "in 5 t  ; t 1*1", "in 5 t 1*1 ; t 1*1",
        ])


class NoSuchMoment(DeskCase):
    WRONG = [text for text in NO_NUMBERS if " " not in text] + ["-1", "-5", "-" + SIXTY, "t", "5*1", "5,5", "all"]

    def test_of_each_deed(self):
        desk = desk_of(TWO, "in 5 t 1*1")
        before = all_of(desk, TWO, 0, 5)
        for text in self.WRONG:
            rows = [f"in {text} t 1*1", f"ask {text} t", f"settle {text}", f"why {text} t 1"]
            self.check_refusals(desk, NoMoment, rows)
        self.assertEqual(all_of(desk, TWO, 0, 5), before)
        self.assertEqual(desk.say("in 0 t "), "nothing")

    def test_it_goes_ahead_of_all_but_no_deed(self):
        desk = desk_of(TWO, "in 5 t 1*1", "settle 5")
        for text in ["x", "-1", "05", SIXTY_ONE, "5\n"]:
            self.check_refusals(desk, NoMoment, [
                f"in {text} t x", f"in {text} q x", f"in {text} q 1*1", f"in {text} u 1*1", f"in {text} t  ",
                f"ask {text} q", f"ask {text} ", f"why {text} q x", f"why {text} t x", f"why {text} t 9",
            ])


class WrongHeaps(DeskCase):
    def test_from_the_left_and_ahead_of_all_that_the_house_refuses(self):
        desk = desk_of(TWO, "in 5 t 1*1", "settle 5")
        for heap in ["x", "1", "1*0", "1*", "*1", "1*1,", "1*1 1,1*1", "1*1;t 2*1", "1*1;", "1*01", "1*1\n", "1*1\t",
                     "1*+1", f"1*{SIXTY_ONE}", "1, 1*1", "1*1;; t 1*1", ";", "t 1*1"]:
            self.check_refusals(desk, NoText, [
                f"in 6 t {heap}", f"in 5 t {heap}", f"in 6 q {heap}", f"in 6 t {heap}; q 1*1", f"in 6 q 1*1; t {heap}",
                f"in 6 u 1*1; t {heap}", f"in 5 q 1*1; t {heap}", f"in 0 q ; t {heap}", f"in 6 q {heap}; q ",
            ])
        self.assertEqual(all_of(desk, TWO, 5, 6), ["1*1", "", "1*1", "1*1"] * 2)


class AsTheHouseRefuses(DeskCase):
    def test_too_late_goes_ahead_of_names_and_heaps(self):
        desk = desk_of(TWO, "in 5 t 1*1", "settle 5")
        self.check_refusals(desk, TooLate, [
            "in 5 t 1*1", "in 5 q 1*1", "in 5 u 1*1", "in 0 q 1*1", "in 5 t ", "ask 4 t", "ask 4 q", "ask 4 ",
            "why 4 t 1",
            "why 4 q 1", "why 4 q x", "why 4 t x", "why 4 t 9", "why 4  ", "in 5  1*1",
        ])

    def test_names_and_heaps_tuple_by_tuple(self):
        desk = desk_of(TWO, "in 5 t 1*1")
        self.check_refusals(desk, NoName, [
            "in 5 q 1*1", "in 5 o 1*1", "in 5 r ", "in 5 t 1*1; q ", "in 5 q ; u 1*1", "in 5 T 1*1", "in 5 t;t 1*1",
            "in 5 ;t 1*1", "in 5 t\t 1*1", "in 5 \nt 1*1", "ask 5 q", "ask 5 T", "ask 5 t\n", "ask 5 t;", "why 5 q 1",
            "why 5 q x", "why 5 t\t 1", "ask 5 rule", "in 5 rule ", "in 5 in 1*1",
        ])
        self.check_refusals(desk, NoHeap, [
            "in 5 u 1*1", "in 5 t 1,1*1", "in 5 t 1*1; t 1,1*1; q ", "in 5 u 1*1; q ", "in 5 u 1,1,1*1",
        ])

    def test_they_go_ahead_of_too_much(self):
        desk = desk_of(TWO, "in 5 t 1*1")
        many = " ".join(f"{number}*1" for number in range(401))
        self.check_refusals(desk, TooMuch, [f"in 5 t {many}", f"in 3 t {many}; u ", f"in 5 t 1*{SIXTY}"])
        self.check_refusals(desk, NoName, [f"in 5 t {many}; q "])
        self.check_refusals(desk, NoHeap, [f"in 5 t {many}; u 1*1"])
        for moment in range(10, 25):
            desk.say(f"in {moment} t ")
        self.check_refusals(desk, TooMuch, ["in 30 t ", "in 0 t 1*1"])
        self.check_refusals(desk, NoName, ["in 30 q "])
        self.check_refusals(desk, NoHeap, ["in 30 u 1*1"])
        self.check_refusals(desk, NoText, ["in 30 t x"])

    def test_rows_of_why(self):
        desk = desk_of(TWO, "in 5 t 1*1 2*-1; u 1,2*1", "settle 5")
        wrong = ["x", "1,", ",1", "1*1", "01", "-0", "1,x", SIXTY_ONE, "1\n", "(1)", "1;", "1,1,1,1,1,1,1,1,1"]
        self.check_refusals(desk, NoText, [f"why 5 {name} {text}" for text in wrong for name in "tuor"])
        self.check_refusals(desk, NoRow, [
            "why 5 t 3", "why 5 t 0", "why 5 o 2", "why 5 r 2", "why 5 t 1,2", "why 5 u 1", "why 5 u 2,1",
            "why 5 u 1,2,3", "why 5 t 1,1,1,1,1,1,1,1", f"why 5 t -{SIXTY}",
        ])
        self.check_refusals(desk, NoName, [f"why 5 q {text}" for text in wrong + ["1"]])
        self.check_refusals(desk, TooLate, [f"why 4 q {text}" for text in wrong + ["1"]])


class ReckonedDesk:
    """A desk reckoned another way: rows read by patterns, over a house that asks all anew."""

    def __init__(self, text):
        self.book = read_book(text)
        self.house = Reckoned(self.book)
        self.bundles = []

    def say(self, row):
        """A text or a refusal; of `why` what a paper is asked for, as a tuple (answers, name, row)."""
        if re.fullmatch(r"in [^ ]* .*", row, re.DOTALL):
            return self.say_in(*row[3:].split(" ", 1))
        if row == "back" and self.bundles:
            moment, changes = self.bundles[-1]
            told = self.shown(self.house.take_in(moment, turned_bundle(changes)))
            if isinstance(told, str):
                self.bundles.pop()
            return told
        found = re.fullmatch(r"(ask|settle|why) ([^ ]*)(?: ([^ ]*))?(?: ([^ ]*))?", row, re.DOTALL)
        words = [word for word in found.groups() if word is not None] if found else []
        if not found or len(words) != {"ask": 3, "settle": 2, "why": 4}[words[0]]:
            return NoDeed
        if not re.fullmatch("0|[1-9][0-9]{0,59}", words[1]):
            return NoMoment
        if words[0] == "settle":
            self.house.settle(int(words[1]))
            return "ok"
        told = self.house.answer(int(words[1]), words[2])
        if isinstance(told, type):
            return told
        return show_heap(told) if words[0] == "ask" else self.say_why(int(words[1]), words[2], words[3])

    def say_in(self, moment, text):
        parts = re.split("; ", text)
        if any(" " not in part for part in parts):
            return NoDeed
        if not re.fullmatch("0|[1-9][0-9]{0,59}", moment):
            return NoMoment
        changes = [(part[:part.index(" ")], self.heap_or_none(part[part.index(" ") + 1:])) for part in parts]
        if any(heap is None for name, heap in changes):
            return NoText
        told = self.shown(self.house.take_in(int(moment), changes))
        if isinstance(told, str):
            self.bundles.append((int(moment), changes))
        return told

    def say_why(self, moment, name, text):
        if not re.fullmatch(f"{booked.NUMBER}(,{booked.NUMBER}){{0,7}}", text):
            return NoText
        row = tuple(int(word) for word in text.split(","))
        answer = self.house.answers_at(moment, self.house.bundles)
        if not dict(answer[name]).get(row):
            return NoRow
        return (list(answer.items()), name, row)

    def heap_or_none(self, text):
        entry = rf"{booked.NUMBER}(?:,{booked.NUMBER}){{0,7}}\*(?!0){booked.NUMBER}"
        if not re.fullmatch(f"(?:{entry}(?: {entry})*)?", text):
            return None
        words = [word.split("*") for word in text.split(" ")] if text else []
        pairs = [(tuple(int(number) for number in row.split(",")), int(weight)) for row, weight in words]
        return summed_up([pairs]) if len({len(row) for row, weight in pairs}) < 2 else None

    def shown(self, told):
        if isinstance(told, type):
            return told
        return "\n".join(f"{moment} {name} {show_heap(heap)}" for moment, name, heap in told) or "nothing"


def read_paper(text):
    """The paper that a desk showed."""
    paper = []
    for line in text.split("\n"):
        found = re.fullmatch(r"([a-z]+) ([-0-9,]+)\*(-?[0-9]+)((?: \([^()]*\))*)", line)
        parts = []
        for part in re.findall(r"\(([^()]*)\)", found[4]):
            words = part.split(" ")
            parts.append((int(words[0]), [(name, read_row(row)) for name, row in zip(words[1::2], words[2::2])]))
            assert len(words) % 2 == 1
        paper.append((found[1], read_row(found[2]), int(found[3]), parts))
    return paper


class Random(DeskCase):
    MOMENTS = ["0", "1", "2", "3", "5", "8", SIXTY]

    def random_row(self, source, book):
        tables, names = booked.tables_in(book), names_in(book)
        moment = source.choice(self.MOMENTS * 6 + ["-1", "", "01", "x", SIXTY_ONE])
        deeds = ["in"] * 6 + ["back"] * 3 + ["ask"] * 2 + ["why"] * 4
        deed = source.choice(deeds if source.randint(0, 3) else deeds + ["settle"])
        if deed == "back":
            return "back"
        if deed == "settle":
            return f"settle {source.choice([moment, '0', '1', '2'])}"
        if deed == "in":
            owners = source.choices(sorted(tables), k=source.choice([1, 1, 2, 3])) if tables else ["q"]
            parts = [f"{name} {show_heap(random_heap(source, tables.get(name, 1), 3))}" for name in owners]
            if not source.randint(0, 9):
                parts.append(f"{source.choice(names + ['q'])} 1*1")
            return f"in {moment} {'; '.join(parts)}"
        name = source.choice(names * 5 + ["q", ""])
        if deed == "ask":
            return f"ask {moment} {name}"
        width = booked.widths_of(book).get(name, 1)
        row = ",".join(str(source.randint(-1, 2)) for place in range(width))
        return f"why {moment} {name} {source.choice([row] * 8 + ['', 'x', '1', row + ',1'])}"

    def spoil(self, source, row):
        """One sign put in, left out or changed, once or twice."""
        for turn in range(source.choice([1, 1, 2])):
            place = source.randint(0, len(row))
            row = row[:place] + source.choice(["", *"  ;*,-01tq\n\t"]) + row[place + source.randint(0, 1):]
        return row

    def check_said(self, desk, other, row):
        due = other.say(row)
        said = told_or_refusal(desk.say, row)
        if isinstance(due, tuple):
            told, name, member = due
            check_paper(self, other.book, told, name, member, read_paper(said))
        else:
            self.assertEqual(said, due, row)
        return due

    def test_against_a_desk_that_asks_all_anew(self):
        dues = set()
        for source in seeds(140):
            text = booked.random_book(source, source.choice([4, 8, 14]))
            book = read_book(text)
            desk, other = Desk(text), ReckonedDesk(text)
            for turn in range(14):
                row = self.random_row(source, book)
                due = self.check_said(desk, other, row if source.randint(0, 4) else self.spoil(source, row))
                dues.add(due if isinstance(due, type) else type(due))
            for moment in self.MOMENTS:
                for name in names_in(book):
                    self.check_said(desk, other, f"ask {moment} {name}")
        self.assertEqual(dues - {TooMuch}, {str, tuple, NoDeed, NoMoment, NoText, TooLate, NoName, NoHeap, NoRow})

    def test_signs_at_every_place(self):
        for row in ["in 5 t 1*1; u 1,2*1", "in 5 t ", "back", "ask 5 t", "settle 2", "why 5 t 1"]:
            for place in range(len(row) + 1):
                for sign in " ;*,-0t\n\t":
                    for end in (place, place + 1):
                        desk, other = desk_of(TWO, "in 5 t 1*1"), ReckonedDesk(TWO)
                        other.say("in 5 t 1*1")
                        self.check_said(desk, other, row[:place] + sign + row[end:])

    def test_all_back_leads_to_just_what_was_before(self):
        for source in seeds(40):
            text = booked.random_book(source, 10)
            book = read_book(text)
            desk, said = Desk(text), []
            for turn in range(6):
                heaps = [f"{name} {show_heap(random_heap(source, width, 3))}"
                         for name, width in booked.tables_in(book).items()]
                row = f"in {source.choice(self.MOMENTS)} {'; '.join(heaps)}"
                before = all_of(desk, text, *self.MOMENTS)
                if isinstance(told_or_refusal(desk.say, row), str):
                    said.append(before)
            for before in reversed(said):
                desk.say("back")
                self.assertEqual(all_of(desk, text, *self.MOMENTS), before)
            check_refused(self, NoDeed, desk.say, "back")

    def test_asked_answers_are_those_asked_anew(self):
        for source in seeds(20):
            desk, taken = Desk(EVERY), []
            for turn in range(5):
                heaps = [("t", random_heap(source, 2, 3)), ("u", random_heap(source, 1, 2))]
                moment = source.randint(0, 4)
                desk.say(f"in {moment} " + "; ".join(f"{name} {show_heap(heap)}" for name, heap in heaps))
                taken.append((moment, heaps))
            for moment in range(6):
                told = answers(read_book(EVERY), [pair for known, heaps in taken if known <= moment for pair in heaps])
                self.assertEqual(all_of(desk, EVERY, moment), [show_heap(heap) for name, heap in told])


class RefusedChangesNothing(DeskCase):
    REFUSED = ["", "back ", "in 5 t", "in x t 1*1", "in 5 t x", "in 3 t 1*1", "in 5 q ", "in 5 t 1*1; u 1*1", "ask 5 q",
               "in 6 t" + "".join(f" {number}*1" for number in range(401)), "settle x", "settle 9 9", "why 5 t 9",
               "why 5 t x", "why 2 t 1", "ask 2 t", "in 9 t 1*1; q 1*1", "settle -1", "settle 99999 "]

    def test_answers_settlings_and_bundles(self):
        desk = desk_of(TWO, "in 5 t 1*1", "settle 3", "in 5 t 2*1")
        before = all_of(desk, TWO, 3, 4, 5, 6)
        for row in self.REFUSED:
            self.assertIsInstance(told_or_refusal(desk.say, row), type, row)
            self.assertEqual(all_of(desk, TWO, 3, 4, 5, 6), before)
        self.assertEqual(desk.say("in 4 t "), "nothing")
        self.assertEqual(desk.say("back"), "nothing")
        self.assertEqual(desk.say("back"), "5 t 2*-1\n5 o 2*-1\n5 r 2*-1")
        self.assertEqual(desk.say("back"), "5 t 1*-1\n5 o 1*-1\n5 r 1*-1")
        check_refused(self, NoDeed, desk.say, "back")

    def test_two_desks_of_one_text(self):
        desk, other = Desk(TWO), Desk(TWO)
        desk.say("in 5 t 1*1")
        desk.say("settle 7")
        self.assertEqual(other.say("ask 5 t"), "")
        check_refused(self, NoDeed, other.say, "back")
        self.assertEqual(other.say("in 5 t "), "nothing")

    def test_what_is_told_is_a_text(self):
        desk = Desk(TWO)
        for row in ["in 5 t 1*1", "in 5 t ", "back", "ask 5 t", "ask 5 u", "why 5 t 1", "settle 5"]:
            self.assertIs(type(desk.say(row)), str)


if __name__ == "__main__":
    unittest.main()
