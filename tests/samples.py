"""What several tests share: wrong things, numbers as texts, great ones, and heaps made by a seeded source."""

import random

from deltahouse.errors import (
    HouseError, NoBook, NoDeed, NoHeap, NoMoment, NoName, NoRow, NoText, TooLate, TooMuch,
)

REFUSALS = (NoBook, NoText, NoName, NoHeap, NoRow, NoMoment, NoDeed, TooLate, TooMuch)
GREAT = 10 ** 200 - 1
WIDTHS = range(1, 9)
SIXTY = "9" * 60
SIXTY_ONE = "1" + "0" * 60

NUMBERS = [
    ("0", 0), ("1", 1), ("-1", -1), ("9", 9), ("10", 10), ("-10", -10), ("100", 100), ("1234567890", 1234567890),
    (SIXTY, 10 ** 60 - 1), ("-" + SIXTY, 1 - 10 ** 60), ("1" + "0" * 59, 10 ** 59),
]

# None of these is a number, nor a row or a heap with one of them in the place of a number.
NO_NUMBERS = [
    "-", "--1", "1-", "1-1", "+1", "+0", "-+1", "+-1", "-0", "00", "01", "-01", "007", "-00", "0" * 60, "0" * 61,
    SIXTY_ONE, "-" + SIXTY_ONE, "0" + SIXTY, "1" * 5000, "1_000", "1.0", "1e3", "0x1", "0b1", "0o7", "1L", "a", "x1",
    "1x", "None", "True", "inf", "nan", "''", '"1"', "(1)", "[1]", "1;", ";", "/", ":", "1/1", "~", "%", "!",
    "\t", "\n", "\r", "\v", "\f", "\0", "1\t", "\t1", "1\n", "\n1", "1\r", "1\r\n", "1\v", "1\f", "1\x1c", "1\x85",
    "1\u2028", "1\0", "\u00a01", "1\u00a0", "1\u200b", "\ufeff1", "\u22121", "\u20131", "\uff0d1",
    # Figures that are none of 0 to 9: of other scripts, raised, lowered, in circles, as parts, wide ones.
    "\u0661", "\u06f1", "\u0967", "\u0be7", "\uff11", "\uff10", "\U0001d7ce", "\U0001d7d9", "\u00b9", "\u00b2",
    "\u2081", "\u2460", "\u00bd", "\u2160", "\u4e00", "1\u0661", "\u06611", "-\u0661", "-\uff11", "\ud800",
]

WITH_BLANKS = [" ", "  ", " 1", "1 ", "1  ", "  1", "- 1", "1 1", " -1"]


class Odd:
    """A thing of no kind that the document knows, with no order and no equals."""

    def __eq__(self, other):
        raise RuntimeError("not to be compared")

    def __lt__(self, other):
        raise RuntimeError("not to be compared")

    def __bool__(self):
        raise RuntimeError("not to be asked for its truth")


def ring_of_itself():
    thing = []
    thing.append(thing)
    return thing


def wrong_things():
    """Things that are neither a row nor a heap, of whatever width."""
    return [
        None, True, False, 0, 1, -1, GREAT, 1.0, 1.5, float("nan"), 1j,
        "", "1", "1,2", "12", b"", b"1", (),
        {}, {1: 2}, {(1,): 1}, set(), {1}, frozenset([1]), range(1), iter([1]),
        object(), Odd(), int, tuple, len, lambda: None, ring_of_itself(),
        [None], [True], [1], ["1"], [[1]], [()], [(1,)], [{}],
    ]


def random_pairs(source, width, count=8):
    """Few numbers, so that rows come twice and weights come to 0."""
    return [
        (tuple(source.randint(-1, 2) for place in range(width)), source.randint(-2, 2))
        for turn in range(count)
    ]


def table_of(pairs):
    """A heap reckoned another way: weights by rows, those of 0 left out."""
    rows = {row for row, weight in pairs}
    sums = {row: sum(weight for known, weight in pairs if known == row) for row in rows}
    return {row: weight for row, weight in sums.items() if weight}


def heap_from(table):
    return [(row, table[row]) for row in sorted(table)]


def random_heap(source, width, count=8):
    return heap_from(table_of(random_pairs(source, width, count)))


def seeds(count=60):
    return [random.Random(number) for number in range(count)]


def check_plain_heap(case, heap, width):
    """That a told heap is of just the told kinds, not only equal to one."""
    case.assertIs(type(heap), list)
    for entry in heap:
        case.assertIs(type(entry), tuple)
        case.assertEqual(len(entry), 2)
        case.assertIs(type(entry[0]), tuple)
        case.assertEqual(len(entry[0]), width)
        case.assertTrue(all(type(number) is int for number in entry[0]))
        case.assertIs(type(entry[1]), int)
        case.assertNotEqual(entry[1], 0)
    rows = [entry[0] for entry in heap]
    case.assertEqual(rows, sorted(set(rows)))


def check_refused(case, refusal, call, *handed):
    """That a call is refused with this refusal, a HouseError, and with none of the others."""
    with case.assertRaises(HouseError) as caught:
        call(*handed)
    for known in REFUSALS:
        case.assertEqual(isinstance(caught.exception, known), known is refusal)
