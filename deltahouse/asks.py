"""Questions of one heap: what is picked, what is taken by places, once."""

from deltahouse.heaps import heap_of, rows_there


def passes(row, check):
    number = row[check[0]]
    word = check[1]
    if word == "is":
        return number == check[2]
    if word == "below":
        return number < check[2]
    if word == "above":
        return number > check[2]
    # The one word left is "same": here the check's number is a place.
    return number == row[check[2]]


def picked(one, check):
    return [(row, weight) for row, weight in one if passes(row, check)]


def row_at(row, places):
    return tuple([row[place] for place in places])


def taken(one, places):
    return heap_of([(row_at(row, places), weight) for row, weight in one])


def once(one):
    return [(row, 1) for row in rows_there(one)]
