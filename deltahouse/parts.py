"""Heaps in parts: rows with the same numbers at some places lie together."""

from deltahouse.asks import row_at
from deltahouse.heaps import laid_together


def parted(one, places):
    parts = {}
    for row, weight in one:
        parts.setdefault(row_at(row, places), []).append((row, weight))
    return parts


class PartedHeap:
    def __init__(self, places):
        self.places = places
        self.parts = {}

    def keys_of(self, change):
        return list(parted(change, self.places))

    def under(self, keys):
        return laid_together([self.parts.get(key, []) for key in keys])

    def put(self, keys, one):
        # A part that is left without rows goes, so that no more is kept than the rows of now.
        for key in keys:
            self.parts.pop(key, None)
        self.parts.update(parted(one, self.places))
