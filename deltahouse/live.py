"""Live houses: the answers of a book, kept while bundles of changes come."""

from deltahouse.bookwords import sources_of
from deltahouse.heaps import less, plus
from deltahouse.plain import answer_in, answers, tables_of
from deltahouse.stations import station_answers, stations_of


def names_under(station):
    names = []
    for line in station:
        # A table asks over no line: what moves it is its own change.
        names.extend([line[1]] if line[0] == "table" else sources_of(line))
    return names


def answers_behind(book, before, tables):
    now = dict(before)
    for name in tables:
        now[name] = plus(before[name], tables[name])
    for station in stations_of(book):
        # What asks over nothing that has changed keeps its answer, which was looked at when it came.
        if any([now[name] != before[name] for name in names_under(station)]):
            now.update(dict(station_answers(station, now)))
    return now


def differences(before, now):
    return [(name, less(now[name], before[name])) for name in before]


class Live:
    def __init__(self, book):
        self.book = list(book)
        self.known = dict(answers(book, []))

    def take_in(self, changes):
        before = self.known
        # Kept only when all of it is there: a bundle that is refused leaves the house as it was.
        self.known = answers_behind(self.book, before, tables_of(self.book, changes))
        return [(name, one) for name, one in differences(before, self.known) if one]

    def answer(self, name):
        return answer_in(self.known, name)
