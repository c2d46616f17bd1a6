"""Knots: the standstill of rings, kept while changes come of the names that their rules ask over."""

from deltahouse.heaps import less, plus, rows_there
from deltahouse.rings import standstill


def names_asked(rules):
    asked = {}
    for rule in rules:
        for name in rule[2]:
            asked[name] = True
    return asked


def as_heap(rows):
    return [(row, 1) for row in rows]


class Knot:
    def __init__(self, rings, rules):
        self.rings = list(rings)
        self.rules = list(rules)
        self.asked = names_asked(rules)
        self.heaps = {}
        self.still = dict(standstill(rings, rules, []))

    def change(self, changes):
        heaps = dict(self.heaps)
        for name, one in changes:
            if name in self.asked:
                heaps[name] = plus(heaps.get(name, []), one)
        # Asked anew, not mended: rows that ground only each other then need no search of their own. Nothing is kept
        # above this row, where a change may still be refused.
        now = standstill(self.rings, self.rules, [(name, rows_there(heaps[name])) for name in heaps])
        told = [(ring, less(as_heap(rows), as_heap(self.still[ring]))) for ring, rows in now]
        self.heaps = heaps
        self.still = dict(now)
        return [(ring, one) for ring, one in told if one]

    def rows_of(self, ring):
        return list(self.still[ring])
