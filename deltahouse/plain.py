"""Plain answers: the answers of a book's lines, asked anew of the tables."""

from deltahouse.errors import NoHeap, NoName
from deltahouse.heaps import heap_of, is_heap
from deltahouse.stations import station_answers, stations_of


def table_widths(book):
    widths = {}
    for line in book:
        if line[0] == "table":
            widths[line[1]] = line[2]
    return widths


def tables_of(book, changes):
    widths = table_widths(book)
    pairs = {}
    for name, one in changes:
        if not isinstance(name, str) or name not in widths:
            raise NoName("this is the name of no table of the book")
        if not is_heap(one, widths[name]):
            raise NoHeap("this is no heap of its table's width")
        pairs.setdefault(name, []).extend(one)
    tables = {}
    for name in widths:
        tables[name] = heap_of(pairs.get(name, []))
    return tables


def answers_over(book, tables):
    known = dict(tables)
    for station in stations_of(book):
        known.update(dict(station_answers(station, known)))
    return [(line[1], known[line[1]]) for line in book if line[0] != "rule"]


def answers(book, changes):
    return answers_over(book, tables_of(book, changes))


def answer_in(known, name):
    if not isinstance(name, str) or name not in known:
        raise NoName("no line of the book has this name")
    # What is kept must not go out of hand: the asker may do with the told list as it likes.
    return list(known[name])
