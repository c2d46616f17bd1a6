"""What the tests of live houses, moments, why and the desk share: a house reckoned another way, and its deeds."""

import booked
import reckoned
import ringed
from deltahouse.books import read_book
from deltahouse.errors import HouseError, NoHeap, NoMoment, NoName, TooLate, TooMuch
from deltahouse.texts import read_heap, show_heap
from keeping import summed_up, turned
from samples import heap_from, random_heap, table_of

LAST = 10 ** 60 - 1

# Every kind of line, a knot of two rings that ask each other, and one below it that asks over a ring.
EVERY = """table t 2
table u 1
pick p t 1 above 0
take k t 0
once o k
plus a k u
less b k u
join j t u 0=0
left l t u 0=0
count c t 0
sum s t 1 0
least e t 1 0
most m t 1 0
ring x 1
ring y 1
rule x u 0
rule y x t 0=0 2
rule x y 0
ring z 2
rule z y y all 0,1
count n z all"""

# A ring over what is there, and a group over the ring.
PATHS = """table edge 2
ring path 2
rule path edge 0,1
rule path path edge 1=0 0,3
count ends path 0"""


def book_of(*lines):
    return read_book("\n".join(lines))


def rows(count, start=0, weight=1):
    return [((number,), weight) for number in range(start, start + count)]


def read_changes(*pairs):
    return [(name, read_heap(text)) for name, text in pairs]


def shown(told):
    """What was told, each heap as a text."""
    return [(*step[:-1], show_heap(step[-1])) for step in told]


def turned_bundle(changes):
    return [(name, turned(heap)) for name, heap in changes]


def taken_from(now, before):
    return summed_up([now, turned(before)])


def names_in(book):
    return [line[1] for line in book if line[0] != "rule"]


def is_whole(thing):
    return isinstance(thing, int) and thing is not True and thing is not False


def is_heap(thing, width):
    try:
        plain = isinstance(thing, list) and all(
            isinstance(row, tuple) and len(row) == width and all(map(is_whole, row)) and is_whole(weight)
            for row, weight in thing)
        return plain and thing == heap_from(table_of(thing))
    except (TypeError, ValueError):
        return False


def change_fault(book, changes):
    """What 24 refuses changes with, None where it lets them be."""
    tables = booked.tables_in(book)
    for name, heap in changes:
        if not isinstance(name, str) or name not in tables:
            return NoName
        if not is_heap(heap, tables[name]):
            return NoHeap
    return None


def moment_fault(moment):
    return None if is_whole(moment) and 0 <= moment <= LAST else NoMoment


class Reckoned:
    """A house by moments that keeps all bundles it took in, and asks everything anew of them."""

    def __init__(self, book):
        self.book = book
        self.bundles = []
        self.settled = -1

    def answers_at(self, moment, bundles):
        changes = [pair for known, changes in bundles if known <= moment for pair in changes]
        return dict(booked.answers_or_none(self.book, changes) or {})

    def own_changes(self, bundles):
        """By moments and names. Beside the moments of changes the ones behind them are asked."""
        moments = {known + more for known, changes in self.bundles + bundles for more in (0, 1)}
        owns = {}
        for moment in sorted(moments):
            here, ahead = self.answers_at(moment, bundles), self.answers_at(moment - 1, bundles)
            owns.update({(moment, name): taken_from(here[name], ahead[name]) for name in here})
        return owns

    def open_moments(self):
        return {known for known, changes in self.bundles if known > self.settled}

    def fault(self, moment, changes):
        if moment_fault(moment):
            return NoMoment
        if moment <= self.settled:
            return TooLate
        if change_fault(self.book, changes):
            return change_fault(self.book, changes)
        bundles = self.bundles + [(moment, changes)]
        if len(self.open_moments() | {moment}) > 16:
            return TooMuch
        if not all(self.answers_at(known, bundles) for known in self.open_moments() | {moment}):
            return TooMuch
        return None

    def take_in(self, moment, changes):
        """What is told, or the refusal that is due."""
        fault = self.fault(moment, changes)
        if fault:
            return fault
        bundles = self.bundles + [(moment, ringed.copied(changes))]
        before, now = self.own_changes(bundles[:-1] + [(moment, [])]), self.own_changes(bundles)
        self.bundles = bundles
        order = {name: number for number, name in enumerate(names_in(self.book))}
        keys = sorted(now, key=lambda key: (key[0], order[key[1]]))
        return [(*key, taken_from(now[key], before[key])) for key in keys if now[key] != before[key]]

    def answer(self, moment, name):
        if moment_fault(moment):
            return NoMoment
        if moment < self.settled:
            return TooLate
        if not isinstance(name, str) or name not in names_in(self.book):
            return NoName
        return self.answers_at(moment, self.bundles)[name]

    def settle(self, moment):
        if moment_fault(moment):
            return NoMoment
        self.settled = max(self.settled, moment)
        return None


def told_or_refusal(call, *handed):
    try:
        return call(*handed)
    except HouseError as refusal:
        return type(refusal)


def told_by_name(told, name, moment=LAST):
    """All that was told of a name at moments up to one, summed up; of a list of (moment, name, heap)."""
    return summed_up([heap for known, owner, heap in told if owner == name and known <= moment])


def small_books(source, most=9):
    """A book of which bundles are seldom too great."""
    return read_book(booked.random_book(source, most))


def random_bundle(source, book, size=3):
    tables = booked.tables_in(book)
    names = source.choices(sorted(tables), k=source.choice([0, 1, 1, 2, 3])) if tables else []
    return [(name, random_heap(source, tables[name], source.randint(0, size))) for name in names]


def cut_bundles(source, bundles):
    """The same (place, name, row, weight), the weights cut in two, in another order and in other bundles."""
    pieces = []
    for place, changes in bundles:
        for name, heap in changes:
            for row, weight in heap:
                cut = source.randint(-2, 2)
                pieces += [(place, name, row, cut), (place, name, row, weight - cut)]
    source.shuffle(pieces)
    cuts = []
    while pieces:
        place = pieces[0][0]
        count = source.randint(1, 4)
        mine = [piece for piece in pieces if piece[0] == place][:count]
        pieces = [piece for piece in pieces if piece[0] != place] + [
            piece for piece in pieces if piece[0] == place][count:]
        source.shuffle(pieces)
        cuts.append((place, [(name, summed_up([[(row, weight)]])) for known, name, row, weight in mine]))
    return cuts


def knot_rules(book, ring):
    """The rules of the knot to which a ring belongs."""
    for number, line in enumerate(book):
        if line[0] == "ring" and (number == 0 or book[number - 1][0] != "ring"):
            rings, rules = booked.knot_at(book, number)
            if ring in rings:
                return rules
    return None


def is_ground(rule, pairs, known):
    """Whether named rows are a ground of a rule, of rows that are there."""
    ground = [row for name, row in pairs]
    return (
        [name for name, row in pairs] == list(rule[2])
        and all(dict(known[name]).get(row, 0) > 0 for name, row in pairs)
        and (len(ground) == 1 or reckoned.agree(ground[0], ground[1], rule[3]))
    )


def ring_part_holds(book, line, row, parts, known):
    if len(parts) != 1 or parts[0][0] != 1:
        return False
    pairs = parts[0][1]
    rules = [rule for rule in knot_rules(book, line[1]) if rule[1] == line[1]]
    return any(is_ground(rule, pairs, known) and ringed.head_row(rule, [pair[1] for pair in pairs]) == row
               for rule in rules)


def parts_by_line(line, row, known, widths):
    """The parts as 32 tells them, of a line other than a ring's."""
    word, name, *rest = line
    weights = {owner: dict(heap) for owner, heap in known.items()}
    if word == "table":
        return []
    one = rest[0]
    if word in ("pick", "left"):
        return [(weights[one][row], [(one, row)])]
    if word == "once":
        return [(1, [(one, row)])]
    if word == "take":
        return [(weight, [(one, giver)]) for giver, weight in known[one]
                if tuple(giver[place] for place in rest[1]) == row]
    if word in ("plus", "less"):
        sign = 1 if word == "plus" else -1
        both = [(weights[one].get(row, 0), one), (sign * weights[rest[1]].get(row, 0), rest[1])]
        return [(weight, [(owner, row)]) for weight, owner in both if weight]
    if word == "join":
        first, second = row[:widths[one]], row[widths[one]:]
        return [(weights[one][first] * weights[rest[1]][second], [(one, first), (rest[1], second)])]
    group = reckoned.groups_of(known[one], rest[-1])[row[:-1]]
    if word in ("least", "most"):
        group = [(member, weight) for member, weight in group if weight > 0 and member[rest[1]] == row[-1]]
    return [(1, [(one, member) for member, weight in group])]


def check_step(case, book, known, step):
    case.assertIs(type(step), tuple)
    name, row, weight, parts = step
    case.assertEqual(weight, dict(known[name]).get(row))
    case.assertIs(type(parts), list)
    for part in parts:
        case.assertIs(type(part), tuple)
        case.assertIs(type(part[0]), int)
        case.assertIs(type(part[1]), list)
        case.assertTrue(all(type(pair) is tuple and type(pair[1]) is tuple for pair in part[1]))
    line = next(line for line in book if line[0] != "rule" and line[1] == name)
    if line[0] == "ring":
        case.assertTrue(ring_part_holds(book, line, row, parts, known), step)
    else:
        case.assertEqual(parts, parts_by_line(line, row, known, booked.widths_of(book)))
    if line[0] != "table":
        case.assertEqual(sum(part[0] for part in parts), weight)


def check_paper(case, book, told, name, row, paper):
    """That a paper is one, as 32 and 33 tell it, for a row of a name."""
    known = dict(told)
    case.assertIs(type(paper), list)
    case.assertEqual(paper[-1][:2], (name, row))
    stood, needed = set(), {(name, row)}
    for step in paper:
        check_step(case, book, known, step)
        pairs = {pair for weight, pairs in step[3] for pair in pairs}
        case.assertLessEqual(pairs, stood)
        case.assertNotIn(step[:2], stood)
        stood.add(step[:2])
        needed |= pairs
    case.assertEqual(needed, stood)
