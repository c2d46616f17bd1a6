"""Rows and heaps: rising lists of rows, each row with a whole-number weight."""

WIDEST = 8


def is_whole(thing):
    # Python counts True and False among the ints; the document does not.
    return isinstance(thing, int) and not isinstance(thing, bool)


def is_small(number):
    return abs(number) < 10 ** 60


def is_row(thing, width):
    if not isinstance(thing, tuple):
        return False
    if len(thing) != width or len(thing) < 1 or len(thing) > WIDEST:
        return False
    return all([is_whole(number) for number in thing])


def is_entry(thing, width):
    if not isinstance(thing, tuple) or len(thing) != 2:
        return False
    return is_row(thing[0], width) and is_whole(thing[1]) and thing[1] != 0


def is_rising(rows):
    return all([rows[k] < rows[k + 1] for k in range(len(rows) - 1)])


def is_heap(thing, width):
    if not isinstance(thing, list):
        return False
    # All must be known to be rows before any two are compared: other things may have no order.
    if not all([is_entry(entry, width) for entry in thing]):
        return False
    return is_rising([entry[0] for entry in thing])


def heap_of(pairs):
    sums = {}
    for row, weight in pairs:
        sums[row] = sums.get(row, 0) + weight
    return [(row, sums[row]) for row in sorted(sums) if sums[row] != 0]


def weight_of(one, row):
    for known, weight in one:
        if known == row:
            return weight
    return 0


def rows_there(one):
    return [row for row, weight in one if weight > 0]


def plus(one, other):
    return heap_of(one + other)


def less(one, other):
    return heap_of(one + times(other, -1))


def times(one, number):
    # Taken no times, every weight would be 0, and no row stands in a heap with that.
    if number == 0:
        return []
    return [(row, weight * number) for row, weight in one]


def laid_together(heaps):
    pairs = []
    for one in heaps:
        pairs.extend(one)
    return heap_of(pairs)
