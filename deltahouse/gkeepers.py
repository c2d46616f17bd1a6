"""Keepers for groups, by a word: they tell how the groups' rows change."""

from deltahouse.groups import grouped
from deltahouse.heaps import less, plus
from deltahouse.parts import PartedHeap


class GroupKeeper:
    def __init__(self, word, place, keys):
        self.word = word
        self.place = place
        self.group_keys = keys
        self.groups = PartedHeap(keys)

    def asked_of(self, one):
        return grouped(self.word, one, self.place, self.group_keys)

    def change(self, one):
        touched = self.groups.keys_of(one)
        before = self.groups.under(touched)
        now = plus(before, one)
        self.groups.put(touched, now)
        return less(self.asked_of(now), self.asked_of(before))
