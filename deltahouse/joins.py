"""Questions of two heaps: which rows agree, how many meet, what is joined, what is left over."""

from deltahouse.asks import once, row_at
from deltahouse.parts import parted


def agree(row, other, pairs):
    return all([row[first] == other[second] for first, second in pairs])


def first_places(pairs):
    return tuple([first for first, second in pairs])


def second_places(pairs):
    return tuple([second for first, second in pairs])


def meetings(one, other, pairs):
    # Multiplied, not walked: far more may meet than can be listed.
    ones = parted(one, first_places(pairs))
    others = parted(other, second_places(pairs))
    return sum([len(ones[key]) * len(others[key]) for key in ones if key in others])


def joined(one, other, pairs):
    places = first_places(pairs)
    others = parted(other, second_places(pairs))
    told = []
    # Both heaps rise and have one width each, so what is told rises by itself.
    for row, weight in one:
        for partner, number in others.get(row_at(row, places), []):
            told.append((row + partner, weight * number))
    return told


def left_over(one, other, pairs):
    places = first_places(pairs)
    others = parted(once(other), second_places(pairs))
    return [(row, weight) for row, weight in one if row_at(row, places) not in others]
