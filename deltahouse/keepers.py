"""Keepers for once, for joined and for left over: they tell how their answers change."""

from deltahouse.asks import once
from deltahouse.errors import TooMuch
from deltahouse.heaps import less, plus
from deltahouse.joins import first_places, joined, left_over, meetings, second_places
from deltahouse.parts import PartedHeap

MOST_MEETINGS = 400


class OnceKeeper:
    def __init__(self):
        self.weights = {}

    def change(self, one):
        before = [(row, self.weights[row]) for row, weight in one if row in self.weights]
        now = plus(before, one)
        for row, weight in before:
            self.weights.pop(row)
        for row, weight in now:
            self.weights[row] = weight
        return less(once(now), once(before))


class PairKeeper:
    # What the keepers of two heaps share. Rows agree with rows of the same key alone, so a change moves the answer
    # only at the keys that it touches; what is asked of both heaps, the classes under this one say.
    def __init__(self, pairs):
        self.pairs = pairs
        self.ones = PartedHeap(first_places(pairs))
        self.others = PartedHeap(second_places(pairs))

    def admit(self, before, now):
        # A keeper that refuses changes does it here, where nothing is changed yet.
        pass

    def change(self, one, other):
        keys = sorted(set(self.ones.keys_of(one)) | set(self.others.keys_of(other)))
        before = (self.ones.under(keys), self.others.under(keys))
        now = (plus(before[0], one), plus(before[1], other))
        self.admit(before, now)
        self.ones.put(keys, now[0])
        self.others.put(keys, now[1])
        return less(self.asked_of_both(now), self.asked_of_both(before))


class JoinKeeper(PairKeeper):
    def __init__(self, pairs):
        PairKeeper.__init__(self, pairs)
        self.met = 0

    def meetings_of(self, both):
        return meetings(both[0], both[1], self.pairs)

    def admit(self, before, now):
        met = self.met - self.meetings_of(before) + self.meetings_of(now)
        if met > MOST_MEETINGS:
            raise TooMuch(f"{met} pairs of rows would meet")
        self.met = met

    def asked_of_both(self, both):
        return joined(both[0], both[1], self.pairs)


class LeftKeeper(PairKeeper):
    def asked_of_both(self, both):
        return left_over(both[0], both[1], self.pairs)
