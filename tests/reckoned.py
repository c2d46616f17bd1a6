"""The answers of promises 8 to 10 reckoned another way: row by row, as the document's words go."""


def once(one):
    return [(row, 1) for row, weight in one if weight > 0]


def agree(row, other, pairs):
    for first, second in pairs:
        if row[first] != other[second]:
            return False
    return True


def meeting_pairs(one, other, pairs):
    return [(here, there) for here in one for there in other if agree(here[0], there[0], pairs)]


def meetings(one, other, pairs):
    return len(meeting_pairs(one, other, pairs))


def joined(one, other, pairs):
    return sorted((here[0] + there[0], here[1] * there[1]) for here, there in meeting_pairs(one, other, pairs))


def left_over(one, other, pairs):
    there = [row for row, weight in other if weight > 0]
    return [(row, weight) for row, weight in one if not any(agree(row, known, pairs) for known in there)]


def groups_of(one, keys):
    groups = {}
    for row, weight in one:
        groups.setdefault(tuple(row[key] for key in keys), []).append((row, weight))
    return groups


def number_of(word, group, place):
    """The number of one group, or None where it tells none."""
    if word == "count":
        return sum(weight for row, weight in group)
    if word == "sum":
        return sum(weight * row[place] for row, weight in group)
    there = [row[place] for row, weight in group if weight > 0]
    if not there:
        return None
    return min(there) if word == "least" else max(there)


def grouped(word, one, place, keys):
    told = []
    for key, group in groups_of(one, keys).items():
        number = number_of(word, group, place)
        if number is not None:
            told.append((key + (number,), 1))
    return sorted(told)
