"""The desk: a house by moments, told rows of text and answering with texts."""

from deltahouse.books import read_book
from deltahouse.errors import NoDeed, NoMoment, NoText
from deltahouse.heaps import times
from deltahouse.moments import Moments
from deltahouse.texts import read_heap, read_place, read_row, show_heap, show_row
from deltahouse.why import why

# How many words a row of each kind has; behind the second blank of "in" all is one.
DEEDS = {"in": 3, "back": 1, "ask": 3, "settle": 2, "why": 4}


def words_said(row):
    if not isinstance(row, str):
        raise NoDeed("a desk is told texts alone")
    words = row.split(" ", 2) if row.startswith("in ") else row.split(" ")
    if DEEDS.get(words[0]) != len(words):
        raise NoDeed("a row is in, back, ask, settle or why, with as many words as it needs")
    return words


def parts_said(text):
    parts = text.split("; ")
    if not all([" " in part for part in parts]):
        raise NoDeed("each change is a name, a blank and a heap")
    return parts


def read_moment(text):
    try:
        return read_place(text)
    except NoText as e:
        raise NoMoment("this is written as no moment") from e


def read_change(text):
    words = text.split(" ", 1)
    return (words[0], read_heap(words[1]))


def show_told(told):
    if not told:
        return "nothing"
    return "\n".join([f"{moment} {name} " + show_heap(one) for moment, name, one in told])


def show_bracket(weight, pairs):
    words = [str(weight)] + [name + " " + show_row(row) for name, row in pairs]
    return " (" + " ".join(words) + ")"


def show_step(step):
    head = step[0] + " " + show_heap([(step[1], step[2])])
    return head + "".join([show_bracket(weight, pairs) for weight, pairs in step[3]])


class Desk:
    def __init__(self, text):
        self.book = read_book(text)
        self.house = Moments(self.book)
        self.bundles = []

    def say(self, row):
        words = words_said(row)
        deed = words[0]
        if deed == "in":
            return self.bring(words[1], words[2])
        if deed == "back":
            return self.bring_back()
        moment = read_moment(words[1])
        if deed == "ask":
            return show_heap(self.house.answer(moment, words[2]))
        if deed == "why":
            return self.explain(moment, words[2], words[3])
        self.house.settle(moment)
        return "ok"

    def bring(self, written, text):
        parts = parts_said(text)
        moment = read_moment(written)
        changes = [read_change(part) for part in parts]
        told = self.house.take_in(moment, changes)
        self.bundles.append((moment, changes))
        return show_told(told)

    def bring_back(self):
        if not self.bundles:
            raise NoDeed("there is nothing to be taken back")
        bundle = self.bundles[-1]
        told = self.house.take_in(bundle[0], [(name, times(one, -1)) for name, one in bundle[1]])
        # Only now: a bundle that cannot be taken back stays the last one.
        self.bundles.pop()
        return show_told(told)

    def explain(self, moment, name, written):
        # Asked for its refusals, which go ahead of what is written for the row.
        self.house.answer(moment, name)
        row = read_row(written)
        names = [line[1] for line in self.book if line[0] != "rule"]
        told = [(known, self.house.answer(moment, known)) for known in names]
        return "\n".join([show_step(step) for step in why(self.book, told, name, row)])
