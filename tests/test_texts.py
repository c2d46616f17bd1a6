"""Numbers, places, rows and heaps as texts: promise 20, and what 2, 5 and 6 say of it."""

import inspect
import itertools
import unittest

from deltahouse.errors import NoText
from deltahouse.texts import read_heap, read_number, read_place, read_row, show_heap, show_row
from samples import (
    GREAT, NO_NUMBERS, NUMBERS, SIXTY, SIXTY_ONE, WIDTHS, WITH_BLANKS, check_plain_heap, check_refused, random_heap,
    random_pairs, seeds, table_of, wrong_things,
)


class Interface(unittest.TestCase):
    def test_names_and_arguments(self):
        for function, arguments in [
            (read_heap, ["text"]), (show_heap, ["one"]), (read_row, ["text"]), (show_row, ["row"]),
        ]:
            with self.subTest(function=function.__name__):
                self.assertEqual(list(inspect.signature(function).parameters), arguments)


class ThingsThatAreNoTexts(unittest.TestCase):
    def test_whatever_is_no_text_is_refused(self):
        things = wrong_things() + [[((1,), 1)], ((1,), 1), (1, 2), bytearray(b"1*1"), ["1*1"], ("1",), 10 ** 6000,
                                   -10 ** 6000, [10 ** 6000]]
        for read in (read_heap, read_row, read_number, read_place):
            for thing in things:
                if not isinstance(thing, str):
                    check_refused(self, NoText, read, thing)


class Numbers(unittest.TestCase):
    def test_numbers(self):
        for text, number in NUMBERS:
            with self.subTest(text=text):
                self.assertEqual(read_number(text), number)
                self.assertIs(type(read_number(text)), int)
                self.assertEqual(str(number), text)

    def test_what_is_none(self):
        for text in NO_NUMBERS + WITH_BLANKS + ["", "1,2", ",", "1*1", "*"]:
            with self.subTest(text=text):
                check_refused(self, NoText, read_number, text)
                check_refused(self, NoText, read_place, text)

    def test_places_are_numbers_from_0_on(self):
        for text, number in NUMBERS:
            with self.subTest(text=text):
                if number < 0:
                    check_refused(self, NoText, read_place, text)
                else:
                    self.assertEqual(read_place(text), number)
                    self.assertIs(type(read_place(text)), int)

    def test_every_text_of_few_signs(self):
        """All texts of up to three signs out of some that matter: those read are those that Python shows."""
        numbers = {str(number): number for number in range(-99, 1000)}
        for count in range(4):
            for signs in itertools.product("019-+ ,*\n", repeat=count):
                text = "".join(signs)
                if text in numbers:
                    self.assertEqual(read_number(text), numbers[text])
                else:
                    check_refused(self, NoText, read_number, text)


class Rows(unittest.TestCase):
    def check(self, text, row):
        told = read_row(text)
        self.assertEqual(told, row)
        self.assertIs(type(told), tuple)
        self.assertTrue(all(type(number) is int for number in told))
        self.assertEqual(show_row(row), text)
        self.assertIs(type(show_row(row)), str)

    def test_of_one_number(self):
        for text, number in NUMBERS:
            self.check(text, (number,))

    def test_of_one_to_eight_numbers(self):
        for width in WIDTHS:
            row = tuple(range(-3, width - 3))
            self.check(",".join(str(number) for number in row), row)
            self.check(",".join(["-" + SIXTY] * width), (1 - 10 ** 60,) * width)
        self.check("1,2", (1, 2))
        self.check("3,-4", (3, -4))

    def test_nine_numbers_are_none(self):
        for text in ["1,2,3,4,5,6,7,8,9", ",".join("0" * 9), ",".join("1" * 100), ",".join("1" * 10000)]:
            check_refused(self, NoText, read_row, text)

    def test_the_empty_text_is_none(self):
        check_refused(self, NoText, read_row, "")

    def test_commas_that_part_nothing(self):
        for text in [",", ",,", "1,", ",1", "1,,2", ",1,2", "1,2,", ", ", "1;2", "1.2", "1:2", "1*2", "1*1", "(1,2)",
                     "(1,)"]:
            check_refused(self, NoText, read_row, text)

    def test_a_number_that_is_none_at_any_place(self):
        for wrong in NO_NUMBERS + WITH_BLANKS + [""]:
            for text in [wrong + ",1", "1," + wrong, "1," + wrong + ",1", ",".join(["1"] * 7 + [wrong])]:
                with self.subTest(text=text):
                    check_refused(self, NoText, read_row, text)
        for wrong in NO_NUMBERS + WITH_BLANKS:
            check_refused(self, NoText, read_row, wrong)

    def test_shown_a_number_has_as_many_figures_as_it_needs(self):
        self.assertEqual(show_row((10 ** 60, -10 ** 60)), SIXTY_ONE + ",-" + SIXTY_ONE)
        self.assertEqual(show_row((GREAT, -GREAT)), "9" * 200 + ",-" + "9" * 200)
        self.assertEqual(show_row((10 ** 3999,)), "1" + "0" * 3999)
        check_refused(self, NoText, read_row, show_row((10 ** 60,)))

    def test_shown_and_read_again(self):
        for source in seeds():
            for width in WIDTHS:
                row = tuple(source.randint(-10 ** source.randint(0, 59), 10 ** source.randint(0, 59))
                            for place in range(width))
                self.assertEqual(read_row(show_row(row)), row)
                self.assertEqual(show_row(read_row(show_row(row))), show_row(row))


class Heaps(unittest.TestCase):
    def check(self, text, heap):
        self.assertEqual(read_heap(text), heap)
        check_plain_heap(self, read_heap(text), len(heap[0][0]) if heap else 0)

    def check_both(self, text, heap):
        self.check(text, heap)
        self.assertEqual(show_heap(heap), text)
        self.assertIs(type(show_heap(heap)), str)

    def test_heaps_in_their_own_order(self):
        self.check_both("1,2*1 3,-4*-2", [((1, 2), 1), ((3, -4), -2)])
        self.check_both("1,5*1 1,6*-1", [((1, 5), 1), ((1, 6), -1)])
        self.check_both("1,0*1", [((1, 0), 1)])
        self.check_both("0*1", [((0,), 1)])
        self.check_both("-10*1 -9*1 0*1 9*1 10*1", [((number,), 1) for number in (-10, -9, 0, 9, 10)])
        self.check_both("1,2,3,4,5,6,7,8*9", [((1, 2, 3, 4, 5, 6, 7, 8), 9)])

    def test_the_empty_heap(self):
        self.check_both("", [])

    def test_in_any_order(self):
        self.check("3,-4*-2 1,2*1", [((1, 2), 1), ((3, -4), -2)])
        self.check("10*1 9*1 -1*1 -2*1", [((-2,), 1), ((-1,), 1), ((9,), 1), ((10,), 1)])

    def test_a_row_more_than_once_has_the_sum(self):
        self.check("1*1 1*1", [((1,), 2)])
        self.check("1,1*2 2,2*7 1,1*-5", [((1, 1), -3), ((2, 2), 7)])
        self.check("1*" + SIXTY + " 1*" + SIXTY, [((1,), 2 * (10 ** 60 - 1))])

    def test_weights_that_come_to_0(self):
        self.check("1*1 1*-1", [])
        self.check("1*1 2*3 1*-1", [((2,), 3)])
        self.check("1*5 1*-2 1*-3", [])

    def test_a_weight_written_0_is_none(self):
        for text in ["1*0", "1*-0", "1*00", "1*1 2*0", "1*0 1*0", "1*0 2*1", "1*1 1*0"]:
            check_refused(self, NoText, read_heap, text)

    def test_rows_of_two_widths_are_none(self):
        for text in ["1*1 1,2*1", "1,2*1 1*1", "1*1 2*1 3,3,3*1", "1*1 1*-1 1,2*1", "1,2*1 1*1 1*-1"]:
            check_refused(self, NoText, read_heap, text)

    def test_nine_numbers_are_none(self):
        for text in ["1,2,3,4,5,6,7,8,9*1", "1*1 1,2,3,4,5,6,7,8,9*1", ",".join("1" * 9) + "*1 1*1"]:
            check_refused(self, NoText, read_heap, text)

    def test_blanks_ahead_behind_and_two_together(self):
        for text in [" ", "  ", " 1*1", "1*1 ", "  1*1", "1*1  ", "1*1  2*1", "1*1 2*1 ", " 1*1 2*1", "1 *1", "1* 1",
                     "1, 2*1", "1 ,2*1", "1*- 1", "- 1*1", "1 * 1"]:
            check_refused(self, NoText, read_heap, text)

    def test_tabs_and_line_ends(self):
        for sign in ["\t", "\n", "\r", "\r\n", "\v", "\f", "\x1c", "\x85", "\u00a0", "\u2003", "\u2028", "\u3000"]:
            for text in [sign, sign + "1*1", "1*1" + sign, f"1*1{sign}2*1", f"1*1 {sign}2*1", f"1*1{sign} 2*1",
                         f"1{sign}*1", f"1*{sign}1", f"1,{sign}2*1"]:
                with self.subTest(text=text):
                    check_refused(self, NoText, read_heap, text)

    def test_a_row_and_a_weight_each_once(self):
        for text in ["1", "1,2", "*", "*1", "1*", "1**1", "1*1*1", "**", "1*1*", "*1*1", "1*1 2", "1 2*1", "1*1 *1",
                     "1*1 2*", "1*1,2*1", "1*1;2*1", "1*1,", ",*1", "1,*1", ",1*1", "1x1", "1:1", "1=1", "1*1,1", "1+1",
                     "1*1\\n", "[]", "[((1,), 1)]", "nothing", "all", "0", "-"]:
            with self.subTest(text=text):
                check_refused(self, NoText, read_heap, text)

    def test_a_number_that_is_none_in_row_or_weight(self):
        for wrong in NO_NUMBERS + [""]:
            for text in [f"{wrong}*1", f"1*{wrong}", f"1,{wrong}*1", f"{wrong},1*1", f"1*1 {wrong}*1", f"1*1 2*{wrong}",
                         f"1*{wrong} 2*1"]:
                with self.subTest(text=text):
                    check_refused(self, NoText, read_heap, text)

    def test_sixty_figures_and_sixty_one(self):
        great = 10 ** 60 - 1
        self.check_both(f"-{SIXTY}*-{SIXTY} {SIXTY}*{SIXTY}", [((-great,), -great), ((great,), great)])
        for text in [f"{SIXTY_ONE}*1", f"-{SIXTY_ONE}*1", f"1*{SIXTY_ONE}", f"1*-{SIXTY_ONE}", f"1,{SIXTY_ONE}*1"]:
            check_refused(self, NoText, read_heap, text)

    def test_shown_a_number_has_as_many_figures_as_it_needs(self):
        self.assertEqual(show_heap([((1,), 10 ** 60)]), "1*" + SIXTY_ONE)
        self.assertEqual(show_heap([((-10 ** 60, 0), -10 ** 60), ((1, GREAT), GREAT * GREAT)]),
                         f"-{SIXTY_ONE},0*-{SIXTY_ONE} 1,{GREAT}*{GREAT * GREAT}")
        self.assertEqual(show_heap([((1,), -10 ** 3999)]), "1*-1" + "0" * 3999)

    def test_a_text_of_twenty_thousand_signs(self):
        text = " ".join(f"{number},1*1" for number in range(1000, 3000))
        heap = [((number, 1), 1) for number in range(1000, 3000)]
        self.check_both(text, heap)
        check_refused(self, NoText, read_heap, text + " 1*1")
        check_refused(self, NoText, read_heap, "1" * 20000)
        check_refused(self, NoText, read_heap, " " * 20000)

    def test_every_text_of_few_signs(self):
        """Only what is written as a heap is shows itself again, or its rows in their own order."""
        for count in range(5):
            for signs in itertools.product("012-,* ", repeat=count):
                text = "".join(signs)
                try:
                    heap = read_heap(text)
                except NoText:
                    self.assertFalse(self.is_written_heap(text), text)
                else:
                    self.assertTrue(self.is_written_heap(text), text)
                    self.assertEqual(show_heap(heap), text)

    def is_written_heap(self, text):
        """Of at most four signs: the empty one, or one row and its weight."""
        numbers = [str(number) for number in range(-99, 100)]
        rows = numbers + [f"{one},{other}" for one in range(-9, 10) for other in range(-9, 10)]
        row, star, weight = text.partition("*")
        return text == "" or (star == "*" and row in rows and weight in numbers and weight != "0")

    def test_shown_and_read_again(self):
        for source in seeds():
            for width in WIDTHS:
                heap = random_heap(source, width, source.randint(0, 12))
                self.assertEqual(read_heap(show_heap(heap)), heap)
                self.assertEqual(show_heap(read_heap(show_heap(heap))), show_heap(heap))
                great = [(tuple(number * 10 ** 58 for number in row), weight * 10 ** 58) for row, weight in heap]
                self.assertEqual(read_heap(show_heap(great)), great)

    def test_read_of_pairs_in_any_order(self):
        for source in seeds():
            for width in (1, 2, 8):
                pairs = [(row, weight) for row, weight in random_pairs(source, width, 12) if weight]
                told = read_heap(show_heap(pairs))
                check_plain_heap(self, told, width)
                self.assertEqual(dict(told), table_of(pairs))


class AskersOwn(unittest.TestCase):
    def test_what_is_shown_is_not_changed(self):
        heap = [((1, 2), 1), ((3, -4), -2)]
        show_heap(heap)
        self.assertEqual(heap, [((1, 2), 1), ((3, -4), -2)])

    def test_what_was_told_stays(self):
        for text in ["", "1,2*1 3,-4*-2"]:
            told, other = read_heap(text), read_heap(text)
            self.assertEqual(told, other)
            told.append("changed")
            self.assertNotEqual(told, other)
            self.assertEqual(read_heap(text), other)
        heap = [((1, 2), 1)]
        shown = show_heap(heap)
        heap.append(((3, 4), 1))
        self.assertEqual(shown, "1,2*1")


if __name__ == "__main__":
    unittest.main()
