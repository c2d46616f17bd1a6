"""Stations: the parts of a book that are answered as one, a line by itself or a knot, and their answers."""

from deltahouse.asks import once, picked, taken
from deltahouse.bookwords import sources_of
from deltahouse.errors import TooMuch
from deltahouse.groups import counted, grouped
from deltahouse.heaps import is_small, less, plus, rows_there
from deltahouse.joins import joined, left_over, meetings
from deltahouse.keepers import MOST_MEETINGS
from deltahouse.knots import as_heap, names_asked
from deltahouse.rings import standstill

MOST_ROWS = 400


def stations_of(book):
    stations = []
    above = ""
    for line in book:
        # A rule is never the first line: it asks over a line above.
        if line[0] == "rule" or (line[0] == "ring" and above == "ring"):
            stations[-1].append(line)
        else:
            stations.append([line])
        above = line[0]
    return stations


def rings_of(station):
    return [line[1] for line in station if line[0] == "ring"]


def rules_of(station):
    return [line for line in station if line[0] == "rule"]


def asked_of_one(line, one):
    word = line[0]
    if word == "pick":
        return picked(one, line[3:])
    if word == "take":
        return taken(one, line[3])
    if word == "once":
        return once(one)
    if word == "count":
        return counted(one, line[3])
    return grouped(word, one, line[3], line[4])


def asked_of_two(line, one, other):
    word = line[0]
    if word == "plus":
        return plus(one, other)
    if word == "less":
        return less(one, other)
    if word == "left":
        return left_over(one, other, line[4])
    # The one word left is "join". Asked ahead: far more may meet than should be listed.
    if meetings(one, other, line[4]) > MOST_MEETINGS:
        raise TooMuch("more than four hundred pairs of rows meet")
    return joined(one, other, line[4])


def line_answer(line, known):
    # A table is known from the first; it is told all the same, so that it is looked at like other answers.
    if line[0] == "table":
        return known[line[1]]
    heaps = [known[name] for name in sources_of(line)]
    if len(heaps) == 1:
        return asked_of_one(line, heaps[0])
    return asked_of_two(line, heaps[0], heaps[1])


def rows_given(station, known):
    names = names_asked(rules_of(station))
    return [(name, rows_there(known[name])) for name in names if name not in rings_of(station)]


def knot_answers(station, known):
    still = standstill(rings_of(station), rules_of(station), rows_given(station, known))
    return [(ring, as_heap(rows)) for ring, rows in still]


def check_size(one):
    if len(one) > MOST_ROWS:
        raise TooMuch("an answer has more than four hundred rows")
    for row, weight in one:
        if not all([is_small(number) for number in row + (weight,)]):
            raise TooMuch("an answer has a number or a weight of more than sixty figures")


def station_answers(station, known):
    if rings_of(station):
        told = knot_answers(station, known)
    else:
        told = [(line[1], line_answer(line, known)) for line in station]
    for name, one in told:
        check_size(one)
    return told
