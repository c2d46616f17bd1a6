"""Texts: numbers, places, rows and heaps, read and shown."""

from deltahouse.errors import NoText
from deltahouse.heaps import WIDEST, heap_of

FIGURES = "0123456789"
MOST_FIGURES = 60


def is_written_place(text):
    # The figures are asked one by one: Python's own reading lets through blanks, signs and figures of other scripts.
    if len(text) < 1 or len(text) > MOST_FIGURES:
        return False
    if text.startswith("0") and text != "0":
        return False
    return all([sign in FIGURES for sign in text])


def is_written_number(text):
    if text.startswith("-"):
        return text != "-0" and is_written_place(text[1:])
    return is_written_place(text)


def read_place(text):
    if not isinstance(text, str) or not is_written_place(text):
        raise NoText("this is written as no place")
    return int(text)


def read_number(text):
    if not isinstance(text, str) or not is_written_number(text):
        raise NoText("this is written as no number")
    return int(text)


def read_row(text):
    if not isinstance(text, str):
        raise NoText("a row is read of a text alone")
    words = text.split(",")
    if len(words) > WIDEST:
        raise NoText("this is written as more numbers than a row has")
    return tuple([read_number(word) for word in words])


def show_row(row):
    return ",".join([str(number) for number in row])


def read_entry(text):
    words = text.split("*")
    if len(words) != 2 or words[1] == "0":
        raise NoText("this is written as no row with its weight")
    return (read_row(words[0]), read_number(words[1]))


def read_heap(text):
    if not isinstance(text, str):
        raise NoText("a heap is read of a text alone")
    if text == "":
        return []
    pairs = [read_entry(word) for word in text.split(" ")]
    if len(set([len(row) for row, weight in pairs])) > 1:
        raise NoText("the rows of a heap are of one width")
    return heap_of(pairs)


def show_heap(one):
    return " ".join([show_row(row) + "*" + str(weight) for row, weight in one])
