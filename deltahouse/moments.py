"""Moments: changes taken in at moments, in any order, and the answers there."""

from deltahouse.errors import NoMoment, TooLate, TooMuch
from deltahouse.heaps import is_small, is_whole, less
from deltahouse.live import answers_behind, differences
from deltahouse.plain import answer_in, answers, tables_of

MOST_MOMENTS = 16


def check_moment(thing):
    if not is_whole(thing) or thing < 0 or not is_small(thing):
        raise NoMoment("a moment is a whole number from 0 on, of at most sixty figures")


def own_changes(before, now):
    told = []
    ahead = {}
    for moment in sorted(now):
        here = dict(differences(before[moment], now[moment]))
        # An answer that has moved at the moment ahead moves here alike; what is beyond that is this moment's own.
        told.extend([(moment, name, less(here[name], ahead.get(name, []))) for name in here])
        ahead = here
    return [step for step in told if step[2]]


class Moments:
    def __init__(self, book):
        self.book = list(book)
        # The greatest settled moment, one ahead of all where none is, and the answers there.
        self.settled = -1
        self.base = dict(answers(book, []))
        # The answers at each moment behind it at which changes were taken in; they stay until the next such one.
        self.moved = {}

    def known_at(self, moment):
        known = self.base
        for earlier in sorted(self.moved):
            if earlier <= moment:
                known = self.moved[earlier]
        return known

    def take_in(self, moment, changes):
        check_moment(moment)
        if moment <= self.settled:
            raise TooLate("this moment is settled")
        tables = tables_of(self.book, changes)
        if moment not in self.moved and len(self.moved) >= MOST_MOMENTS:
            raise TooMuch("there are sixteen moments already that are not settled")
        before = {moment: self.known_at(moment)}
        for later in self.moved:
            if later > moment:
                before[later] = self.moved[later]
        now = {}
        for later in before:
            now[later] = answers_behind(self.book, before[later], tables)
        # Kept only when no moment is left at which the tables could be too great.
        self.moved.update(now)
        return own_changes(before, now)

    def answer(self, moment, name):
        check_moment(moment)
        if moment < self.settled:
            raise TooLate("a greater moment is settled")
        return answer_in(self.known_at(moment), name)

    def settle(self, moment):
        check_moment(moment)
        if moment > self.settled:
            self.base = self.known_at(moment)
            self.moved = dict([(later, self.moved[later]) for later in self.moved if later > moment])
            self.settled = moment
