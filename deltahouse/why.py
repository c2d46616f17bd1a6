"""Why: a paper of steps that leads to a row of an answer."""

from deltahouse.asks import row_at
from deltahouse.books import GROUP_WORDS
from deltahouse.errors import NoRow
from deltahouse.heaps import is_row, rows_there, weight_of
from deltahouse.parts import parted
from deltahouse.plain import answer_in
from deltahouse.rings import paper_of
from deltahouse.stations import rings_of, rows_given, rules_of, stations_of


def check_row(one, row):
    # The width is asked of a row of the answer: an answer without rows has none to be asked for.
    if not one or not is_row(row, len(one[0][0])) or weight_of(one, row) == 0:
        raise NoRow("this is no row that has a weight in the answer")


def take_parts(line, row, known):
    source = line[2]
    return [(weight, [(source, giver)]) for giver, weight in known[source] if row_at(giver, line[3]) == row]


def sum_parts(line, row, known):
    sign = -1 if line[0] == "less" else 1
    weights = [(line[2], weight_of(known[line[2]], row)), (line[3], sign * weight_of(known[line[3]], row))]
    return [(weight, [(name, row)]) for name, weight in weights if weight != 0]


def joined_rows(line, row, known):
    width = len(known[line[2]][0][0])
    return [(line[2], row[:width]), (line[3], row[width:])]


def group_rows(line, row, known):
    group = parted(known[line[2]], line[-1])[row[:-1]]
    if line[0] in ("count", "sum"):
        rows = [member for member, weight in group]
    else:
        rows = [member for member in rows_there(group) if member[line[3]] == row[-1]]
    return [(line[2], member) for member in rows]


def rows_under(line, row, known, ground):
    word = line[0]
    if word == "ring":
        return ground
    if word == "join":
        return joined_rows(line, row, known)
    if word in GROUP_WORDS:
        return group_rows(line, row, known)
    # The words left are "pick", "once" and "left": their rows are rows of what they ask over first.
    return [(line[2], row)]


def parts_of(line, row, known, ground):
    word = line[0]
    if word == "table":
        return []
    if word == "take":
        return take_parts(line, row, known)
    if word in ("plus", "less"):
        return sum_parts(line, row, known)
    # There is one part, so its weight is the row's own.
    return [(weight_of(known[line[1]], row), rows_under(line, row, known, ground))]


def rows_of_station(station, known):
    rules = rules_of(station)
    if rings_of(station):
        paper = paper_of(rings_of(station), rules, rows_given(station, known))
        return [(ring, row, list(zip(rules[number][2], rows))) for ring, row, number, rows in paper]
    name = station[0][1]
    return [(name, row, []) for row, weight in known[name]]


def rows_in_order(book, known):
    # Every row of every answer, each behind all rows that it may need; a ring's row with the ground told for it.
    told = []
    for station in stations_of(book):
        told.extend(rows_of_station(station, known))
    return told


def why(book, told, name, row):
    known = dict(told)
    check_row(answer_in(known, name), row)
    lines = dict([(line[1], line) for line in book if line[0] != "rule"])
    needed = {(name, row): True}
    paper = []
    # From the end on: all that may need a row were asked ahead of it, so none is told that nothing needs.
    for owner, member, ground in reversed(rows_in_order(book, known)):
        if (owner, member) in needed:
            parts = parts_of(lines[owner], member, known, ground)
            paper.append((owner, member, weight_of(known[owner], member), parts))
            for weight, pairs in parts:
                needed.update(dict([(pair, True) for pair in pairs]))
    return list(reversed(paper))
