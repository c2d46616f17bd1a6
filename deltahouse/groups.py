"""Groups of a heap by keys: counted, summed, the least and the most."""

from deltahouse.asks import once
from deltahouse.parts import parted


def told_by_groups(one, keys, number_of):
    groups = parted(one, keys)
    return [(key + (number_of(groups[key]),), 1) for key in sorted(groups)]


def counted(one, keys):
    return told_by_groups(one, keys, lambda group: sum([weight for row, weight in group]))


def summed(one, place, keys):
    return told_by_groups(one, keys, lambda group: sum([weight * row[place] for row, weight in group]))


# The least and the most ask only rows that are there: a group without one must not come up at all.
def least(one, place, keys):
    return told_by_groups(once(one), keys, lambda group: min([row[place] for row, weight in group]))


def most(one, place, keys):
    return told_by_groups(once(one), keys, lambda group: max([row[place] for row, weight in group]))


def grouped(word, one, place, keys):
    if word == "count":
        return counted(one, keys)
    if word == "sum":
        return summed(one, place, keys)
    if word == "least":
        return least(one, place, keys)
    # The one word left is "most".
    return most(one, place, keys)
