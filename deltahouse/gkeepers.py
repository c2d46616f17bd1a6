"""Keepers for groups, by a word: they tell how the groups' rows change."""

from deltahouse.groups import counted, least, most, summed
from deltahouse.heaps import less, plus
from deltahouse.parts import PartedHeap


class GroupKeeper:
    def __init__(self, word, place, keys):
        self.word = word
        self.place = place
        self.group_keys = keys
        self.groups = PartedHeap(keys)

    def asked_of(self, one):
        if self.word == "count":
            return counted(one, self.group_keys)
        if self.word == "sum":
            return summed(one, self.place, self.group_keys)
        if self.word == "least":
            return least(one, self.place, self.group_keys)
        # The one word left is "most".
        return most(one, self.place, self.group_keys)

    def change(self, one):
        touched = self.groups.keys_of(one)
        before = self.groups.under(touched)
        now = plus(before, one)
        self.groups.put(touched, now)
        return less(self.asked_of(now), self.asked_of(before))
