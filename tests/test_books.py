"""Books, read and shown: promises 21 to 23, and what 2 says of them."""

import inspect
import unittest

import booked
from deltahouse.books import read_book, show_book
from deltahouse.errors import NoBook
from samples import GREAT, NO_NUMBERS, NUMBERS, SIXTY, SIXTY_ONE, WITH_BLANKS, check_refused, seeds, wrong_things

# Tables of every width, named by it, so that one line more may ask over any of them.
TABLES = "\n".join(f"table {name} {width}" for width, name in enumerate("abcdefgh", 1))
TABLE_LINES = [("table", name, width) for width, name in enumerate("abcdefgh", 1)]


def behind(*lines):
    return "\n".join([TABLES] + list(lines))


class BookCase(unittest.TestCase):
    def check_book(self, text, lines):
        """That a text is read as these lines, of just these kinds, and shown again."""
        told = read_book(text)
        self.assertEqual(told, lines)
        self.check_kinds(told, lines)
        self.assertEqual(show_book(told), text)
        self.assertIs(type(show_book(told)), str)

    def check_kinds(self, thing, like):
        self.assertIs(type(thing), type(like))
        if isinstance(like, (list, tuple)):
            for part, known in zip(thing, like):
                self.check_kinds(part, known)

    def check_line(self, text, line):
        self.check_book(behind(text), TABLE_LINES + [line])

    def check_none(self, *lines):
        """That the tables and these lines are no book, though the tables alone are one."""
        with self.subTest(lines=lines):
            check_refused(self, NoBook, read_book, behind(*lines))

    def check_one(self, *lines):
        with self.subTest(lines=lines):
            text = behind(*lines)
            self.check_book(text, booked.book_or_none(text))


class Interface(unittest.TestCase):
    def test_names_and_arguments(self):
        self.assertEqual(list(inspect.signature(read_book).parameters), ["text"])
        self.assertEqual(list(inspect.signature(show_book).parameters), ["book"])


class EachKindOfLine(BookCase):
    def test_table(self):
        self.check_book("table t 1", [("table", "t", 1)])
        self.check_book(TABLES, TABLE_LINES)

    def test_pick(self):
        for word in ("is", "below", "above", "same"):
            self.check_line(f"pick n b 1 {word} 0", ("pick", "n", "b", 1, word, 0))
        self.check_line("pick n c 2 is -7", ("pick", "n", "c", 2, "is", -7))

    def test_take_and_once(self):
        self.check_line("take n b 1", ("take", "n", "b", (1,)))
        self.check_line("take n b 1,0,1", ("take", "n", "b", (1, 0, 1)))
        self.check_line("once n c", ("once", "n", "c"))

    def test_plus_and_less(self):
        for word in ("plus", "less"):
            self.check_book(f"table x 2\ntable y 2\n{word} n x y",
                            [("table", "x", 2), ("table", "y", 2), (word, "n", "x", "y")])
            self.check_line(f"{word} n b b", (word, "n", "b", "b"))

    def test_join_and_left(self):
        for word in ("join", "left"):
            self.check_line(f"{word} n b c 1=2", (word, "n", "b", "c", ((1, 2),)))
            self.check_line(f"{word} n b c 1=2,0=0,1=2", (word, "n", "b", "c", ((1, 2), (0, 0), (1, 2))))
            self.check_line(f"{word} n b c all", (word, "n", "b", "c", ()))

    def test_groups(self):
        self.check_line("count n c 2,0", ("count", "n", "c", (2, 0)))
        self.check_line("count n c all", ("count", "n", "c", ()))
        for word in ("sum", "least", "most"):
            self.check_line(f"{word} n c 1 2", (word, "n", "c", 1, (2,)))
            self.check_line(f"{word} n c 1 2,1,2", (word, "n", "c", 1, (2, 1, 2)))
            self.check_line(f"{word} n c 0 all", (word, "n", "c", 0, ()))

    def test_rings_and_rules(self):
        self.check_book("ring r 2", [("ring", "r", 2)])
        self.check_book(
            "table edge 2\nring path 2\nrule path edge 0,1\nrule path path edge 1=0 0,3\nrule path edge edge all 3,0",
            [
                ("table", "edge", 2), ("ring", "path", 2),
                ("rule", "path", ("edge",), (), (0, 1)),
                ("rule", "path", ("path", "edge"), ((1, 0),), (0, 3)),
                ("rule", "path", ("edge", "edge"), (), (3, 0)),
            ],
        )
        self.check_one("ring r 1", "rule r b c 1=2,0=0 4")

    def test_a_line_of_another_word_is_none(self):
        for word in ["", "tables", "Table", "TABLE", "tabl", "xtable", "rules", "all", "filter", "is", "min", "max",
                     "t", "#", "--", "1", "0", "table,", "'table'", "in", "ask", "union", "minus", "\u0442able"]:
            self.check_none(f"{word} n 1")
            self.check_none(f"{word} n b")
            self.check_none(f"{word} n b 0")
            self.check_none(word)

    def test_each_kind_has_just_its_own_words(self):
        """The words of one kind behind the word of another, and one word more or less."""
        for text in EVERY_KIND.split("\n"):
            words = text.split(" ")
            for count in range(1, len(words)):
                self.check_none("ring r 2", " ".join(words[:count]))
            for more in ["0", "b", "all", "1=0", "x", "#", "", "is", "1"]:
                self.check_none("ring r 2", f"{text} {more}")
        for text in EVERY_KIND.split("\n"):
            for word in booked.WORDS:
                lines = behind("ring r 2", " ".join([word] + text.split(" ")[1:]))
                book = booked.book_or_none(lines)
                if book is None:
                    check_refused(self, NoBook, read_book, lines)
                else:
                    self.check_book(lines, book)


# Each stands behind TABLES and a line `ring r 2`; the rules right behind it, the others each by itself.
EVERY_KIND = """table n 1
pick n b 1 is 0
take n b 1
once n b
plus n b b
less n b b
join n b b 0=1
left n b b 0=1
count n b 1
sum n b 0 1
least n b 0 1
most n b 0 1
ring n 1
rule r b 0,1
rule r b r 0=1 0,3"""


class Words(BookCase):
    def test_every_kind_is_read(self):
        for text in EVERY_KIND.split("\n"):
            self.check_one("ring r 2", text)

    def test_the_four_words_of_checks_alone(self):
        for word in ["", "isnt", "IS", "Is", "eq", "=", "<", ">", "==", "not", "under", "over", "all", "Same", "same ",
                     "belo", "abov", "sam", "i", "0", "s", "below,above"]:
            self.check_none(f"pick n b 0 {word} 0")

    def test_numbers_of_checks(self):
        for text, number in NUMBERS:
            for word in ("is", "below", "above"):
                self.check_line(f"pick n b 0 {word} {text}", ("pick", "n", "b", 0, word, number))

    def test_numbers_written_otherwise(self):
        for wrong in NO_NUMBERS + WITH_BLANKS + ["", "1,2", "1*1", "all"]:
            for word in ("is", "below", "above", "same"):
                self.check_none(f"pick n b 0 {word} {wrong}")

    def test_places_written_otherwise(self):
        for wrong in NO_NUMBERS + WITH_BLANKS + ["", "-1", "all", "0,0", "0=0"]:
            self.check_none(f"pick n b {wrong} is 0")
            for word in ("sum", "least", "most"):
                self.check_none(f"{word} n b {wrong} 0")
                self.check_none(f"{word} n b {wrong} all")

    def test_lists_of_places_written_otherwise(self):
        for wrong in NO_NUMBERS + WITH_BLANKS + ["", "-1", "0=0", "*"]:
            for places in [wrong, f"{wrong},0", f"0,{wrong}", f"0,{wrong},0"]:
                self.check_none(f"take n b {places}")
                self.check_none(f"count n b {places}")
                self.check_none(f"sum n b 0 {places}")
                self.check_none("ring r 1", f"rule r b {places}")
                self.check_none("ring r 1", f"rule r b b all {places}")
                self.check_none("ring r 2", f"rule r b {places}")

    def test_all_is_no_places_and_none_of_several(self):
        for places in ["all", "all,0", "0,all", "all,all", "ALL", "All", "al", "alll", "none", "()", "all "]:
            self.check_none(f"take n b {places}")
            self.check_none("ring r 1", f"rule r b {places}")
            self.check_none("ring r 1", f"rule r b b 0=0 {places}")
        for keys in ["all,0", "0,all", "all,all", "ALL", "All", "al", "alll", "none", "()", "all ", "-"]:
            for line in [f"count n b {keys}", f"least n b 0 {keys}", f"join n b b {keys}", f"left n b b {keys}"]:
                self.check_none(line)
        for pairs in ["all,0=0", "0=0,all", "all=all", "all=0", "0=all", "all=", "=all"]:
            self.check_none(f"join n b b {pairs}")
            self.check_none("ring r 1", f"rule r b b {pairs} 0")

    def test_pairs_written_otherwise(self):
        wrong_ones = ["", "=", "0", "0=", "=0", "0==0", "0=0=0", "0=0,", ",0=0", "0=0,,0=0", "0,0", "0=0;0=0", "0-0",
                      "0:0", "0 = 0", "0= 0", "0 =0", "0=0, 0=0", "(0,0)", "0=0,0", "0,0=0", "0=-1", "-1=0", "0=b",
                      "0=00"]
        wrong_ones += [f"0={wrong}" for wrong in NO_NUMBERS + WITH_BLANKS]
        wrong_ones += [f"{wrong}=0" for wrong in NO_NUMBERS + WITH_BLANKS]
        for pairs in wrong_ones:
            for line in [f"join n b b {pairs}", f"left n b b {pairs}"]:
                self.check_none(line)
            self.check_none("ring r 1", f"rule r b b {pairs} 0")


class Counts(BookCase):
    def test_widths_1_and_8_0_and_9(self):
        for word in ("table", "ring"):
            for width in range(1, 9):
                self.check_book(f"{word} n {width}", [(word, "n", width)])
            for width in ["0", "9", "10", "11", "18", "80", "-1", "-8", SIXTY, SIXTY_ONE, str(GREAT), "all", "1,1"]:
                check_refused(self, NoBook, read_book, f"{word} n {width}")
            for wrong in NO_NUMBERS + WITH_BLANKS + [""]:
                check_refused(self, NoBook, read_book, f"{word} n {wrong}")

    def test_one_line_and_twenty_four_and_twenty_five(self):
        names = [f"t{letter}" for letter in "abcdefghijklmnopqrstuvwxyz"]
        for count in (1, 2, 23, 24):
            lines = [f"table {name} 1" for name in names[:count]]
            self.check_book("\n".join(lines), [("table", name, 1) for name in names[:count]])
        for count in (25, 26):
            text = "\n".join(f"table {name} 1" for name in names[:count])
            check_refused(self, NoBook, read_book, text)
        rules = ["table t 1", "ring r 1"] + ["rule r t 0"] * 22
        self.check_book("\n".join(rules), booked.book_or_none("\n".join(rules)))
        check_refused(self, NoBook, read_book, "\n".join(rules + ["rule r t 0"]))
        check_refused(self, NoBook, read_book, "\n".join(rules[:-1] + ["rule r t 0", "once n r"]))
        check_refused(self, NoBook, read_book, "\n" * 20000)

    def test_eight_places_and_nine(self):
        for count in (1, 8):
            places = ",".join(["0"] * count)
            self.check_line(f"take n b {places}", ("take", "n", "b", (0,) * count))
            self.check_one(f"ring r {count}", f"rule r b {places}")
            self.check_one(f"ring r {count}", f"rule r b b 0=1 {places}")
        for count in (9, 10, 100):
            places = ",".join(["0"] * count)
            self.check_none(f"take n b {places}")
            self.check_none("ring r 8", f"rule r b {places}")
            self.check_none("ring r 8", f"rule r b b 0=1 {places}")

    def test_eight_pairs_and_nine(self):
        for count in (1, 8):
            pairs = ",".join(["0=1"] * count)
            for word in ("join", "left"):
                self.check_line(f"{word} n b b {pairs}", (word, "n", "b", "b", ((0, 1),) * count))
            self.check_one("ring r 1", f"rule r b b {pairs} 0")
        for count in (9, 10, 100):
            pairs = ",".join(["0=1"] * count)
            for word in ("join", "left"):
                self.check_none(f"{word} n b b {pairs}")
            self.check_none("ring r 1", f"rule r b b {pairs} 0")

    def test_seven_keys_and_eight(self):
        for count in (1, 7):
            keys = ",".join(["1"] * count)
            self.check_line(f"count n b {keys}", ("count", "n", "b", (1,) * count))
            for word in ("sum", "least", "most"):
                self.check_line(f"{word} n b 0 {keys}", (word, "n", "b", 0, (1,) * count))
        for count in (8, 9, 100):
            keys = ",".join(["1"] * count)
            self.check_none(f"count n b {keys}")
            for word in ("sum", "least", "most"):
                self.check_none(f"{word} n b 0 {keys}")


class PlacesWithinWidths(BookCase):
    def test_a_place_that_is_the_width_and_the_last_one_below_it(self):
        for width, name in enumerate("abcdefgh", 1):
            for line in ["pick n {t} {place} is 0", "pick n {t} 0 same {place}", "pick n {t} {place} same 0",
                         "take n {t} {place}", "take n {t} 0,{place}", "take n {t} {place},0", "count n {t} {place}",
                         "count n {t} 0,{place}", "sum n {t} {place} all", "sum n {t} 0 {place}",
                         "least n {t} {place} 0", "least n {t} 0 0,{place}", "most n {t} {place} 0",
                         "most n {t} 0 {place},0", "left n {t} h {place}=0", "left n h {t} 0={place}",
                         "left n h {t} 0=0,0={place}", "left n {t} h 0=0,{place}=0"]:
                self.check_one(line.replace("{t}", name).replace("{place}", str(width - 1)))
                for place in [width, width + 1, 10 ** 59]:
                    self.check_none(line.replace("{t}", name).replace("{place}", str(place)))

    def test_the_number_of_other_checks_is_no_place(self):
        for word in ("is", "below", "above"):
            self.check_one(f"pick n b 0 {word} 2")
            self.check_one(f"pick n b 0 {word} {SIXTY}")
            self.check_one(f"pick n b 0 {word} -1")
        self.check_none("pick n b 0 same 2")
        self.check_none("pick n b 0 same -1")
        self.check_none(f"pick n b 0 same {SIXTY}")
        self.check_none(f"pick n b 0 same -{SIXTY}")

    def test_pairs_of_a_join_are_asked_each_of_its_own_side(self):
        self.check_one("join n b c 1=2")
        self.check_none("join n b c 2=1")
        self.check_none("join n b c 1=3")
        self.check_none("join n b c 2=2")
        self.check_none("join n b c 0=0,0=3")
        self.check_one("join n c b 2=1")
        self.check_none("join n c b 1=2")

    def test_places_of_rules(self):
        self.check_one("ring r 1", "rule r b 1")
        self.check_none("ring r 1", "rule r b 2")
        self.check_one("ring r 1", "rule r b c all 4")
        self.check_none("ring r 1", "rule r b c all 5")
        self.check_one("ring r 1", "rule r b c 1=2 0")
        self.check_none("ring r 1", "rule r b c 2=0 0")
        self.check_none("ring r 1", "rule r b c 0=3 0")
        self.check_none("ring r 1", "rule r b c 4=0 0")
        self.check_none("ring r 2", "rule r b 0,2")
        self.check_one("ring r 2", "rule r r 1,0")
        self.check_none("ring r 2", "rule r r 1,2")

    def test_two_sources_of_a_rule_may_have_sixteen_numbers_together(self):
        self.check_one("ring r 8", "rule r h h 7=7 15,14,13,12,11,10,9,8")
        self.check_none("ring r 8", "rule r h h 7=7 16,14,13,12,11,10,9,8")
        self.check_one("ring r 1", "rule r a h 0=7 8")
        self.check_none("ring r 1", "rule r a h 0=7 9")


class Widths(BookCase):
    def has_width(self, lines, name, width):
        """That the last place below the width may be asked of a name, and the width itself not."""
        self.check_one(*lines, f"take last {name} {width - 1}")
        self.check_none(*lines, f"take last {name} {width}")

    def test_of_one_source(self):
        self.has_width(["pick n c 0 is 0"], "n", 3)
        self.has_width(["once n c"], "n", 3)
        self.has_width(["take n c 0"], "n", 1)
        self.has_width(["take n c 0,0,0,1,1,1,2,2"], "n", 8)

    def test_of_two_sources(self):
        self.has_width(["plus n c c"], "n", 3)
        self.has_width(["less n c c"], "n", 3)
        self.has_width(["left n c h all"], "n", 3)
        self.has_width(["left n h c all"], "n", 8)
        self.has_width(["join n b c all"], "n", 5)
        self.has_width(["join n a g 0=6"], "n", 8)

    def test_of_groups(self):
        self.has_width(["count n c all"], "n", 1)
        self.has_width(["count n c 2"], "n", 2)
        for word in ("sum", "least", "most"):
            self.has_width([f"{word} n c 2 all"], "n", 1)
            self.has_width([f"{word} n c 2 0"], "n", 2)
            self.has_width([f"{word} n c 2 0,0,0,0,0,0,0"], "n", 8)

    def test_of_rings(self):
        for width in (1, 2, 8):
            self.has_width([f"ring n {width}"], "n", width)
        self.has_width(["ring n 2", "rule n c c all 5,0"], "n", 2)

    def test_plus_and_less_of_two_of_one_width(self):
        for word in ("plus", "less"):
            for one in "abcdefgh":
                for other in "abcdefgh":
                    if one == other:
                        self.check_one(f"{word} n {one} {other}")
                    else:
                        self.check_none(f"{word} n {one} {other}")
            self.check_one("take m h 0,1", f"{word} n b m")
            self.check_none("take m h 0,1", f"{word} n h m")

    def test_a_join_of_widths_that_come_to_8_and_to_9(self):
        for width, one in enumerate("abcdefgh", 1):
            for beside, other in enumerate("abcdefgh", 1):
                for pairs in ("all", "0=0"):
                    if width + beside <= 8:
                        self.check_one(f"join n {one} {other} {pairs}")
                    else:
                        self.check_none(f"join n {one} {other} {pairs}")
                    self.check_one(f"left n {one} {other} {pairs}")


class Names(BookCase):
    def test_of_one_letter_and_of_the_most(self):
        for name in ["n", "z", "no", "nameseig", "zzzzzzzz", "aaaaaaaa", "abcdefgh"]:
            self.check_line(f"once {name} b", ("once", name, "b"))
            self.check_book(f"table {name} 1\nonce other {name}", [("table", name, 1), ("once", "other", name)])
            self.check_one(f"ring {name} 1", f"rule {name} a 0")

    def test_what_is_no_name(self):
        for name in ["", "nameseigh", "aaaaaaaaa", "a" * 1000, "N", "nA", "n1", "1", "0", "n_", "_", "n-n", "-", "n.",
                     "n,m", "n=m", "*", "\u00e4", "n\u00e9", "\u0430", "\uff41", "\u00aa", "n\u0301", "\t", "n\t",
                     "\tn", "n\r", "n\0", "'n'", "n;", "(n)", "$", "~", "`", "{", "@", "\u017f", "\u0131"]:
            for line in [f"table {name} 1", f"once {name} b", f"pick {name} b 0 is 0", f"take {name} b 0",
                         f"plus {name} b b", f"less {name} b b", f"join {name} b b all", f"left {name} b b all",
                         f"count {name} b all", f"sum {name} b 0 all", f"least {name} b 0 all", f"most {name} b 0 all",
                         f"ring {name} 1"]:
                self.check_none(line)
            self.check_none("ring r 1", f"rule {name} b 0")
            self.check_none("ring r 1", f"rule r {name} 0")
            self.check_none("ring r 1", f"rule r {name} b all 0")
            self.check_none("ring r 1", f"rule r b {name} all 0")
            self.check_none(f"once n {name}")
            self.check_none(f"plus n b {name}")
            self.check_none(f"plus n {name} b")

    def test_a_name_that_is_a_lines_own_word(self):
        for name in booked.WORDS + ["all", "is", "below", "above", "same", "in", "back", "ask", "settle", "why"]:
            self.check_one(f"table {name} 1", f"once n {name}")
            self.check_one(f"once {name} b", f"take n {name} 0")
            self.check_one(f"ring {name} 1", f"rule {name} {name} 0", f"rule {name} {name} {name} all 0")
            self.check_one(f"pick {name} b 0 is 0", f"join n {name} {name} all")

    def test_a_name_twice(self):
        for line in EVERY_KIND.split("\n"):
            if not line.startswith("rule"):
                self.check_none("ring r 2", line, line)
                self.check_none(line.replace(" n ", " b ", 1))
                self.check_none("ring n 1", line)
                self.check_none(line, "ring n 1")
                self.check_none(line, "table n 1")
                self.check_none(line, "once m b", "once n b")
        check_refused(self, NoBook, read_book, "table t 1\ntable t 1")
        check_refused(self, NoBook, read_book, "table t 1\ntable t 2")

    def test_a_rules_name_may_come_again(self):
        self.check_one("ring r 1", "rule r a 0", "rule r a 0", "rule r b 1")

    def test_a_name_of_no_line_or_of_a_line_below(self):
        for name in ["x", "low"]:
            for line in [f"pick n {name} 0 is 0", f"take n {name} 0", f"once n {name}", f"plus n b {name}",
                         f"plus n {name} b", f"less n b {name}", f"less n {name} b", f"join n b {name} all",
                         f"join n {name} b all", f"left n b {name} all", f"left n {name} b all", f"count n {name} all",
                         f"sum n {name} 0 all", f"least n {name} 0 all", f"most n {name} 0 all"]:
                self.check_none(line, "table low 2")
                self.check_one("table low 2", line.replace(name, "low"))
            self.check_none("ring r 1", f"rule r {name} 0", "table low 2")
            self.check_none("ring r 1", f"rule r b {name} all 0", "table low 2")
            self.check_none("ring r 1", f"rule r {name} b all 0", "table low 2")
        self.check_none("ring r 1", "rule r low 0", "ring low 1")

    def test_a_name_of_itself(self):
        for line in ["pick n n 0 is 0", "take n n 0", "once n n", "plus n n n", "plus n b n", "less n n b",
                     "join n n n all", "join n a n all", "left n b n all", "left n n b all", "count n n all",
                     "sum n n 0 all", "least n n 0 all", "most n n 0 all"]:
            self.check_none(line)

    def test_rules_have_no_names_of_their_own(self):
        self.check_none("ring r 1", "rule r a 0", "ring r 1")
        self.check_none("ring r 1", "rule n a 0", "once m n")


class Knots(BookCase):
    def test_a_ring_without_rules(self):
        self.check_one("ring r 1")
        self.check_one("ring r 1", "ring s 2")
        self.check_one("ring r 1", "once n r")
        self.check_one("ring r 1", "ring s 2", "rule s b 0,1")
        self.check_one("ring s 2", "ring r 1", "rule s b 0,1")

    def test_two_knots_one_behind_the_other(self):
        self.check_one("ring r 1", "rule r a 0", "ring s 2", "rule s b 0,1")
        self.check_one("ring r 1", "rule r a 0", "ring s 2", "rule s r r all 0,1")
        self.check_one("ring r 1", "rule r a 0", "ring s 1")
        self.check_one("ring r 1", "rule r a 0", "ring s 1", "ring t 1", "rule t s 0", "rule s t 0")

    def test_a_rule_with_no_ring_right_above(self):
        check_refused(self, NoBook, read_book, "rule r a 0")
        check_refused(self, NoBook, read_book, "rule r r 0")
        self.check_none("rule r a 0")
        self.check_none("rule a a 0")
        self.check_none("rule a b all 0")
        self.check_none("rule r a 0", "ring r 1")
        for line in EVERY_KIND.split("\n"):
            if line.split(" ")[0] not in ("ring", "rule"):
                self.check_none("ring r 2", line, "rule r b 0,1")
                self.check_none("ring r 2", "rule r b 0,1", line, "rule r b 0,1")
                self.check_none("ring r 2", line, "rule n b 0,1")

    def test_a_rule_for_a_ring_of_another_knot(self):
        self.check_none("ring r 1", "rule r a 0", "ring s 1", "rule r a 0")
        self.check_none("ring r 1", "rule r a 0", "ring s 1", "rule s a 0", "rule r a 0")
        self.check_none("ring r 1", "rule s a 0", "ring s 1")
        self.check_none("ring r 1", "once n r", "ring s 1", "rule r a 0")
        self.check_none("ring r 1", "once n r", "ring s 1", "rule s a 0", "rule r a 0")

    def test_a_rule_for_what_is_no_ring(self):
        for name in ["a", "b", "n", "x", "rule", "all"]:
            self.check_none("once n a", "ring r 1", f"rule {name} a 0")
            self.check_none("once n a", "ring r 1", "rule r a 0", f"rule {name} a 0")

    def test_a_rule_for_any_ring_of_its_knot_in_any_order(self):
        self.check_one("ring r 1", "ring s 2", "ring t 3", "rule t c 0,1,2", "rule r a 0", "rule s b 1,0", "rule r a 0")

    def test_as_many_places_as_the_rings_width(self):
        for width in range(1, 9):
            for count in range(1, 10):
                places = ",".join(["0"] * count)
                for rule in [f"rule r h {places}", f"rule r a h 0=7 {places}"]:
                    if count == width:
                        self.check_one(f"ring r {width}", rule)
                    else:
                        self.check_none(f"ring r {width}", rule)
        self.check_none("ring r 1", "ring s 2", "rule r b 0,1")
        self.check_none("ring r 1", "ring s 2", "rule s b 0")

    def test_sources_that_are_rings(self):
        self.check_one("ring r 1", "rule r r 0")
        self.check_one("ring r 1", "rule r r r 0=0 1")
        self.check_one("ring r 1", "ring s 2", "rule r s 1", "rule s r r all 1,0", "rule r s s 0=1 3")
        self.check_one("ring r 1", "rule r a 0", "ring s 2", "rule s r s 0=1 0,2", "rule s r 0,0")
        self.check_one("ring r 1", "rule r a 0", "once n r", "ring s 1", "rule s n r 0=0 1")
        self.check_none("ring r 1", "rule r s 0", "ring s 1", "rule s a 0")


class Blanks(BookCase):
    def test_blanks_ahead_behind_and_two_together(self):
        for line in EVERY_KIND.split("\n"):
            for text in [" " + line, line + " ", "  " + line, line + "  ", line.replace(" ", "  ")]:
                self.check_none("ring r 2", text)
            for number, sign in enumerate(line):
                if sign == " ":
                    self.check_none("ring r 2", line[:number] + " " + line[number:])
                    self.check_none("ring r 2", line[:number] + line[number + 1:])
        for text in [" ", "  ", " table t 1", "table t 1 ", "table  t 1", "table t  1", "table t 1\n table u 1",
                     "table t 1 \ntable u 1", "table t 1\ntable u 1 "]:
            check_refused(self, NoBook, read_book, text)

    def test_blanks_within_lists(self):
        for line in ["take n b 0, 1", "take n b 0 ,1", "count n b 0, 1", "join n b b 0=0, 1=1", "join n b b 0= 0",
                     "join n b b 0 =0"]:
            self.check_none(line)

    def test_tabs_and_other_signs_between_words(self):
        for sign in ["\t", "\r", "\v", "\f", "\x1c", "\x1f", "\x85", "\u00a0", "\u2003", "\u2028", "\u3000", "\0", ","]:
            for text in [f"table{sign}t 1", f"table t{sign}1", f"{sign}table t 1", f"table t 1{sign}",
                         f"table {sign}t 1", f"table t 1{sign}table u 1", f"table t 1\n{sign}table u 1",
                         f"table t 1{sign}\ntable u 1", sign]:
                with self.subTest(text=text):
                    check_refused(self, NoBook, read_book, text)

    def test_empty_lines_and_line_feeds(self):
        for text in ["", "\n", "\n\n", "table t 1\n", "\ntable t 1", "table t 1\n\ntable u 1", "table t 1\n\n",
                     "table t 1\r\ntable u 1", "table t 1\rtable u 1", "table t\n1", "table\nt 1", "table t 1\n\r",
                     "table t 1\n ", "table t 1;table u 1", "table t 1 table u 1", "table t 1\\ntable u 1"]:
            with self.subTest(text=text):
                check_refused(self, NoBook, read_book, text)


class NoTexts(unittest.TestCase):
    def test_whatever_is_no_text_is_refused(self):
        things = wrong_things() + [
            [], ["table t 1"], ("table t 1",), [("table", "t", 1)], b"table t 1", bytearray(b"table t 1"),
            {"table t 1": 1}, 10 ** 6000, read_book("table t 1"),
        ]
        for thing in things:
            check_refused(self, NoBook, read_book, thing)


class ReadAndShown(BookCase):
    def test_random_books(self):
        for source in seeds(200):
            text = booked.random_book(source)
            book = booked.book_or_none(text)
            self.assertIsNotNone(book)
            self.check_book(text, book)

    def test_books_with_one_thing_changed(self):
        """What is a book behind a small change is read as it stands, what is none is refused."""
        still_books = 0
        for source in seeds(150):
            text = booked.random_book(source, source.choice([3, 6, 12, 24]))
            for turn in range(30):
                other = changed_text(source, text)
                book = booked.book_or_none(other)
                with self.subTest(text=other):
                    if book is None:
                        check_refused(self, NoBook, read_book, other)
                    else:
                        still_books += 1
                        self.check_book(other, book)
        self.assertGreater(still_books, 500)

    def test_every_line_of_few_words(self):
        """All lines of some words behind two tables and a ring: read is just what 21 and 22 let be one."""
        vocabulary = ["a", "r", "n", "0", "1", "2", "all", "0=0", "0,1", "is", "same"]
        lines = [[word] for word in booked.WORDS]
        for turn in range(4):
            for line in lines:
                text = "\n".join(["table a 1", "ring r 2", " ".join(line)])
                book = booked.book_or_none(text)
                if book is None:
                    check_refused(self, NoBook, read_book, text)
                else:
                    self.check_book(text, book)
            lines = [line + [word] for line in lines for word in vocabulary] if turn < 3 else []

    def test_a_text_of_twenty_thousand_signs(self):
        for text in ["a" * 20000, " " * 20000, "table " * 3333, "take n b " + "0," * 9990 + "0",
                     "table t 1\n" * 1999 + "table t 1", "pick n b 0 is " + "1" * 19000]:
            check_refused(self, NoBook, read_book, text)
            check_refused(self, NoBook, read_book, "table b 1\n" + text)


def changed_text(source, text):
    """A text with one sign, word or line taken out, put in, doubled, or set in the place of another."""
    parting = source.choice(["", " ", "\n"])
    parts = list(text) if parting == "" else text.split(parting)
    words = ["all", "0", "8", "n", "0,1", "0=1", "is", "same", ""]
    strange = {"": "abz0129-,=\n \t", " ": words, "\n": ["", "ring n 1"]}
    place = source.randrange(len(parts))
    other = source.choice(parts + list(strange[parting]))
    deed = source.choice(["out", "in", "instead", "swap"])
    if deed == "out":
        parts.pop(place)
    elif deed == "in":
        parts.insert(place, other)
    elif deed == "instead":
        parts[place] = other
    else:
        beside = source.randrange(len(parts))
        parts[place], parts[beside] = parts[beside], parts[place]
    return parting.join(parts)


class AskersOwn(unittest.TestCase):
    def test_a_book_shown_is_not_changed(self):
        for source in seeds(20):
            text = booked.random_book(source)
            book = read_book(text)
            show_book(book)
            self.assertEqual(book, booked.book_or_none(text))

    def test_what_was_told_stays(self):
        for source in seeds(20):
            text = booked.random_book(source)
            told, other = read_book(text), read_book(text)
            shown = show_book(told)
            told.reverse()
            told.append("changed")
            self.assertEqual(other, booked.book_or_none(text))
            self.assertEqual(read_book(text), other)
            self.assertEqual(shown, text)
            self.assertEqual(show_book(other), text)


if __name__ == "__main__":
    unittest.main()
