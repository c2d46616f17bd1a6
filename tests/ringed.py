"""What the tests of rings and of knots share: answers reckoned another way, and samples of rules."""

import itertools

import reckoned

BEYOND = 401


def head_row(rule, rows):
    numbers = list(itertools.chain(*rows))
    return tuple(numbers[place] for place in rule[4])


def grounds(rules, told):
    """Every row of the one source beside every row of the other, as the words of 14 and 15 go."""
    table = dict(told)
    found = []
    for number, (word, head, sources, pairs, places) in enumerate(rules):
        for rows in itertools.product(*[table.get(name, []) for name in sources]):
            if len(rows) == 1 or reckoned.agree(rows[0], rows[1], pairs):
                found.append((number, list(rows)))
    return found


def heads(rules, found):
    return {(rules[number][1], head_row(rules[number], rows)) for number, rows in found}


def stand_still(rules, told):
    """Whether each ground's head row is a row of its head ring."""
    table = dict(told)
    return all(row in table.get(ring, []) for ring, row in heads(rules, grounds(rules, told)))


def rows_by_rings(rings, pairs):
    return [(ring, sorted(row for name, row in pairs if name == ring)) for ring in rings]


def still_or_none(rings, rules, given):
    """The standstill, round by round of all grounds anew, or None where there are more than four hundred of them."""
    told = rows_by_rings(rings, set())
    while True:
        found = grounds(rules, given + told)
        if len(found) >= BEYOND:
            return None
        now = rows_by_rings(rings, heads(rules, found))
        if now == told:
            return told
        told = now


def rows_there(heaps):
    """The rows given by summed-up heaps: those of a weight above 0."""
    return [(name, [row for row, weight in heap if weight > 0]) for name, heap in heaps.items()]


def walk_paper(case, paper, rules, given, still):
    """Each step by itself, as 17 tells it; at the end the rows of the paper are those of the standstill."""
    table = {name: list(rows) for name, rows in given}
    case.assertIs(type(paper), list)
    for step in paper:
        case.assertIs(type(step), tuple)
        ring, row, number, rows = step
        case.assertIs(type(row), tuple)
        case.assertIs(type(number), int)
        case.assertIs(type(rows), list)
        word, head, sources, pairs, places = rules[number]
        case.assertEqual(ring, head)
        case.assertEqual(len(rows), len(sources))
        for name, known in zip(sources, rows):
            case.assertIn(known, table.get(name, []))
        case.assertTrue(len(rows) == 1 or reckoned.agree(rows[0], rows[1], pairs))
        case.assertEqual(row, head_row(rules[number], rows))
        case.assertNotIn(row, table.get(ring, []))
        table.setdefault(ring, []).append(row)
    case.assertEqual(still, [(ring, sorted(table.get(ring, []))) for ring, rows in still])
    case.assertEqual(len(paper), sum(len(rows) for ring, rows in still))


# Paths over edges: path(x, y) where there is an edge, path(x, z) where a path (x, y) goes on by an edge (y, z).
PATHS = [
    ("rule", "path", ("edge",), (), (0, 1)),
    ("rule", "path", ("path", "edge"), ((1, 0),), (0, 3)),
]


def chain(count, start=0):
    """Edges one behind another; of so many there are count * (count + 1) // 2 grounds by PATHS."""
    return [(number, number + 1) for number in range(start, start + count)]


def lone(count, start=1000):
    """Edges that meet no other one: one ground each."""
    return [(number, -number) for number in range(start, start + count)]


# A round: in(x) leads to r(x), and r(x) to r(y) by a step (x, y).
ROUND = [
    ("rule", "r", ("in",), (), (0,)),
    ("rule", "r", ("r", "step"), ((0, 0),), (2,)),
]


def steps_round(count):
    return sorted((number, (number + 1) % count) for number in range(count))


WIDTHS_OF = {"a": 2, "b": 1, "c": 3, "p": 2, "q": 1, "w": 3, "z": 2}
RINGS = ["q", "w", "p", "z"]
GIVEN = ["a", "b", "c"]


def random_rule(source, head, names):
    """Of two sources mostly with pairs, so that grounds do not grow beyond all bounds at once."""
    sources = tuple(source.choice(names) for turn in range(source.choice([1, 2, 2])))
    width = sum(WIDTHS_OF[name] for name in sources)
    pairs = ()
    if len(sources) == 2:
        pairs = tuple(tuple(source.randrange(WIDTHS_OF[name]) for name in sources)
                      for turn in range(source.choice([0, 1, 1, 1, 2, 3])))
    places = tuple(source.randrange(width) for turn in range(WIDTHS_OF[head]))
    return ("rule", head, sources, pairs, places)


def random_rules(source):
    """A way in for most rings, and rules that ask over all names, rings too; none for the last ring."""
    rules = [random_rule(source, head, GIVEN) for head in RINGS[:3] if source.randint(0, 3)]
    rules += [random_rule(source, source.choice(RINGS[:3]), sorted(WIDTHS_OF)) for turn in range(source.randint(0, 6))]
    source.shuffle(rules)
    return rules


def random_rows(source, width, count, greatest=3):
    return sorted({tuple(source.randint(0, greatest) for place in range(width)) for turn in range(count)})


def random_given(source):
    """Rows by names, in any order of names, some names left out, some without rows."""
    count = source.choice([4, 8, 60])
    names = source.sample(GIVEN, source.choice([1, 2, 3, 3, 3]))
    return [(name, random_rows(source, WIDTHS_OF[name], source.randint(0, count))) for name in names]


def copied(thing):
    """The same lists and tuples anew, all the way down."""
    if isinstance(thing, list):
        return [copied(part) for part in thing]
    if isinstance(thing, tuple):
        return tuple(copied(part) for part in thing)
    return thing


def spoiled(thing):
    """Every list within a thing is changed, itself too."""
    if isinstance(thing, (list, tuple)):
        for part in thing:
            spoiled(part)
    if isinstance(thing, list):
        thing.reverse()
        thing.append("changed")
