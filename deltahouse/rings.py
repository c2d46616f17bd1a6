"""Rings: the grounds of rules, the standstill of rings, and a paper that leads to it."""

from deltahouse.asks import row_at
from deltahouse.errors import TooMuch

MOST_GROUNDS = 400


def head_of(rule, rows):
    # Two rows together may be wider than a row may be: they are cut down by the places before they are one.
    numbers = []
    for row in rows:
        numbers.extend(row)
    return row_at(numbers, rule[4])


class Finder:
    # Rows come one at a time, each name's row once, and each ground is found once: with the last of its rows.
    def __init__(self, rules):
        self.rules = rules
        self.askers = {}
        self.known = {}
        self.found = []
        for number, rule in enumerate(rules):
            for side, name in enumerate(rule[2]):
                self.askers.setdefault(name, []).append((number, side))

    def come(self, name, row):
        told = []
        for number, side in self.askers.get(name, []):
            told.extend([(number, rows) for rows in self.grounds_with(row, number, side)])
            # Asked at once, not at the end: all rules together may find far more than can be listed.
            if len(self.found) + len(told) > MOST_GROUNDS:
                raise TooMuch("there are more than four hundred grounds")
        self.found.extend(told)
        return told

    def grounds_with(self, row, number, side):
        rule = self.rules[number]
        if len(rule[2]) == 1:
            return [[row]]
        key = row_at(row, [pair[side] for pair in rule[3]])
        # A name that is both sources comes to one side and then to the other: its row meets itself there, just once.
        self.known.setdefault((number, side, key), []).append(row)
        partners = self.known.get((number, 1 - side, key), [])
        if side == 0:
            return [[row, partner] for partner in partners]
        return [[partner, row] for partner in partners]


def rows_with_names(told):
    pairs = []
    for name, rows in told:
        pairs.extend([(name, row) for row in rows])
    return pairs


def grounds(rules, told):
    finder = Finder(rules)
    for name, row in rows_with_names(told):
        finder.come(name, row)
    return sorted(finder.found)


def paper_of(rings, rules, given):
    finder = Finder(rules)
    paper = []
    there = {}
    coming = rows_with_names(given)
    # A row comes only when it stands in the paper, so every ground that is found has its rows there already.
    while coming:
        found = []
        for name, row in coming:
            found.extend(finder.come(name, row))
        coming = []
        for number, rows in found:
            ring = rules[number][1]
            row = head_of(rules[number], rows)
            if (ring, row) not in there:
                there[(ring, row)] = True
                paper.append((ring, row, number, rows))
                coming.append((ring, row))
    return paper


def standstill(rings, rules, given):
    ring_rows = {}
    for ring, row, number, rows in paper_of(rings, rules, given):
        ring_rows.setdefault(ring, []).append(row)
    return [(ring, sorted(ring_rows.get(ring, []))) for ring in rings]
