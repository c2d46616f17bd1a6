"""What the tests of books and of answers share: both reckoned another way, and books made by a seeded source."""

import re

import reckoned
import ringed
from samples import heap_from, random_heap, table_of

NUMBER = "(?:0|-?[1-9][0-9]{0,59})"
PLACE = "(?:0|[1-9][0-9]{0,59})"
PAIR = f"{PLACE}={PLACE}"


def places_of(text):
    return () if text == "all" else tuple(int(word) for word in text.split(","))


def pairs_of(text):
    return () if text == "all" else tuple(tuple(int(word) for word in part.split("=")) for part in text.split(","))


# Each sort of word: how it is written, and what is made of it.
SORTS = {
    "NAME": ("[a-z]{1,8}", str),
    "WIDTH": ("[1-8]", int),
    "PLACE": (PLACE, int),
    "WORD": ("is|below|above|same", str),
    "NUMBER": (NUMBER, int),
    "PLACES": (f"{PLACE}(?:,{PLACE}){{0,7}}", places_of),
    "PAIRS": (f"all|{PAIR}(?:,{PAIR}){{0,7}}", pairs_of),
    "KEYS": (f"all|{PLACE}(?:,{PLACE}){{0,6}}", places_of),
}

WRITTEN = [
    "table NAME WIDTH", "pick NAME NAME PLACE WORD NUMBER", "take NAME NAME PLACES", "once NAME NAME",
    "plus NAME NAME NAME", "less NAME NAME NAME", "join NAME NAME NAME PAIRS", "left NAME NAME NAME PAIRS",
    "count NAME NAME KEYS", "sum NAME NAME PLACE KEYS", "least NAME NAME PLACE KEYS", "most NAME NAME PLACE KEYS",
    "ring NAME WIDTH", "rule NAME NAME PLACES", "rule NAME NAME NAME PAIRS PLACES",
]
WORDS = sorted({form.split(" ")[0] for form in WRITTEN})


def line_or_none(text):
    for form in WRITTEN:
        word, *sorts = form.split(" ")
        found = re.fullmatch(" ".join([word] + [f"({SORTS[sort][0]})" for sort in sorts]), text)
        if found:
            things = [SORTS[sort][1](part) for sort, part in zip(sorts, found.groups())]
            if word != "rule":
                return (word, *things)
            if len(things) == 3:
                return ("rule", things[0], (things[1],), (), things[2])
            return ("rule", things[0], (things[1], things[2]), things[3], things[4])
    return None


def pairs_fit(pairs, one, other):
    return all(first < one and second < other for first, second in pairs)


def width_or_none(line, widths):
    """The width of a line by the widths of the lines above, None where it asks what it may not."""
    word, name, *rest = line
    if word in ("table", "ring"):
        return rest[0]
    names = rest[0] if word == "rule" else [part for part in rest[:2] if isinstance(part, str)]
    if not all(known in widths for known in names):
        return None
    one, other = ([widths[known] for known in names] + [0])[:2]
    fits, width = True, one
    if word == "pick":
        fits = rest[1] < one and (rest[2] != "same" or 0 <= rest[3] < one)
    elif word == "take":
        fits, width = max(rest[1]) < one, len(rest[1])
    elif word in ("plus", "less"):
        fits = one == other
    elif word == "join":
        fits, width = pairs_fit(rest[2], one, other) and one + other <= 8, one + other
    elif word == "left":
        fits = pairs_fit(rest[2], one, other)
    elif word == "count":
        fits, width = all(key < one for key in rest[1]), len(rest[1]) + 1
    elif word in ("sum", "least", "most"):
        fits, width = all(place < one for place in (rest[1],) + rest[2]), len(rest[2]) + 1
    elif word == "rule":
        fits, width = pairs_fit(rest[1], one, other) and max(rest[2]) < one + other, len(rest[2])
    return width if fits else None


def book_or_none(text):
    """A book as 21 to 23 tell it, line by line; None of what is none."""
    rows = text.split("\n")
    if len(rows) > 24:
        return None
    book, widths, knot, above = [], {}, {}, None
    for row in rows:
        line = line_or_none(row)
        width = None if line is None else width_or_none(line, widths)
        if width is None:
            return None
        word, name = line[:2]
        if word == "rule":
            if above not in ("ring", "rule") or knot.get(name) != width:
                return None
        elif name in widths:
            return None
        else:
            if word == "ring" and above != "ring":
                knot = {}
            if word == "ring":
                knot[name] = width
            widths[name] = width
        book.append(line)
        above = word
    return book


def widths_of(book):
    widths = {}
    for line in book:
        if line[0] != "rule":
            widths[line[1]] = width_or_none(line, widths)
    return widths


def tables_in(book):
    return {line[1]: line[2] for line in book if line[0] == "table"}


def of_checks(row, place, word, number):
    return {"is": row[place] == number, "below": row[place] < number, "above": row[place] > number,
            "same": word == "same" and row[place] == row[number]}[word]


def taken(one, places):
    return heap_from(table_of([(tuple(row[place] for place in places), weight) for row, weight in one]))


def answer_of(line, known):
    """The answer of a line other than a table's or a ring's; None where more than four hundred meet in a join."""
    word, name, *rest = line
    one, other = known[rest[0]], known.get(rest[1]) if len(rest) > 1 and isinstance(rest[1], str) else None
    if word == "pick":
        return [(row, weight) for row, weight in one if of_checks(row, *rest[1:])]
    if word == "take":
        return taken(one, rest[1])
    if word == "once":
        return reckoned.once(one)
    if word in ("plus", "less"):
        sign = 1 if word == "plus" else -1
        return heap_from(table_of(one + [(row, sign * weight) for row, weight in other]))
    if word == "join":
        return None if reckoned.meetings(one, other, rest[2]) > 400 else reckoned.joined(one, other, rest[2])
    if word == "left":
        return reckoned.left_over(one, other, rest[2])
    return reckoned.grouped(word, one, rest[1] if word != "count" else None, rest[-1])


def knot_at(book, number):
    """The rings and the rules of the knot whose first line has this number."""
    end = number
    while end < len(book) and book[end][0] == "ring":
        end += 1
    rings = [line[1] for line in book[number:end]]
    rules = []
    while end < len(book) and book[end][0] == "rule":
        rules.append(book[end])
        end += 1
    return rings, rules


def knot_answers_or_none(rings, rules, known):
    names = sorted({name for rule in rules for name in rule[2]} - set(rings))
    still = ringed.still_or_none(rings, rules, ringed.rows_there({name: known[name] for name in names}))
    return still and {ring: [(row, 1) for row in rows] for ring, rows in still}


def is_too_great(one):
    numbers = [number for row, weight in one for number in row + (weight,)]
    return len(one) > 400 or any(len(str(abs(number))) > 60 for number in numbers)


def answers_or_none(book, changes):
    """The answers as 24 and 25 tell them, of changes with no fault by 24; None where the tables are too great."""
    known, told = {}, []
    for number, line in enumerate(book):
        word, name = line[:2]
        if word == "rule":
            continue
        if word == "table":
            known[name] = heap_from(table_of([pair for table, heap in changes if table == name for pair in heap]))
        elif word != "ring":
            known[name] = answer_of(line, known)
        elif name not in known:
            still = knot_answers_or_none(*knot_at(book, number), known)
            if still is None:
                return None
            known.update(still)
        if known[name] is None or is_too_great(known[name]):
            return None
        told.append((name, known[name]))
    return told


def random_name(source, widths):
    while True:
        letters = source.choice(["abc", "abcdefghijklmnopqrstuvwxyz"])
        name = source.choice(WORDS + ["all", "is"] + ["".join(source.choices(letters, k=source.randint(1, 8)))] * 30)
        if name not in widths:
            return name


def random_places(source, width, count):
    return ",".join(str(source.randrange(width)) for turn in range(count))


def random_pairs_text(source, one, other):
    if not source.randint(0, 5):
        return "all"
    count = source.choice([1, 1, 1, 2, 2, 3, 8])
    return ",".join(f"{source.randrange(one)}={source.randrange(other)}" for turn in range(count))


def random_keys(source, width):
    return random_places(source, width, source.choice([1, 1, 2, 3, 7])) if source.randint(0, 3) else "all"


def random_line(source, name, widths):
    """A line of one source or of two, over the lines above."""
    word = source.choice(["pick", "take", "once", "plus", "less", "join", "left", "count", "sum", "least", "most"])
    one, other = source.choice(sorted(widths)), source.choice(sorted(widths))
    width, beside = widths[one], widths[other]
    head, place = f"{word} {name} {one}", source.randrange(width)
    if word == "join" and width + beside > 8:
        word = "left"
        head = f"left {name} {one}"
    if word == "pick":
        check = source.choice(["is", "below", "above", "same"])
        return f"{head} {place} {check} {source.randrange(width) if check == 'same' else source.randint(-1, 2)}"
    if word == "take":
        return f"{head} {random_places(source, width, source.choice([1, 1, 2, 3, 8]))}"
    if word == "once":
        return head
    if word in ("plus", "less"):
        return f"{head} {source.choice([known for known in sorted(widths) if widths[known] == width])}"
    if word in ("join", "left"):
        return f"{head} {other} {random_pairs_text(source, width, beside)}"
    keys = random_keys(source, width)
    return f"{head} {keys}" if word == "count" else f"{head} {place} {keys}"


def random_rule_line(source, ring, width, widths):
    one, other = source.choice(sorted(widths)), source.choice(sorted(widths))
    if source.randint(0, 1):
        return f"rule {ring} {one} {random_places(source, widths[one], width)}"
    pairs = random_pairs_text(source, widths[one], widths[other])
    return f"rule {ring} {one} {other} {pairs} {random_places(source, widths[one] + widths[other], width)}"


def random_knot(source, widths):
    rings = {}
    for turn in range(source.choice([1, 1, 2, 3])):
        rings[random_name(source, {**widths, **rings})] = source.choice([1, 1, 2, 2, 3])
    lines = [f"ring {ring} {width}" for ring, width in rings.items()]
    known = {**widths, **rings}
    for turn in range(source.choice([0, 1, 2, 3, 4])):
        ring = source.choice(sorted(rings))
        lines.append(random_rule_line(source, ring, rings[ring], known))
    return lines


def random_book(source, most=24):
    """The text of a book; what it has of each line is as 21 and 22 ask."""
    lines, widths = [], {}
    count = source.randint(1, most)
    while len(lines) < count:
        sort = source.choice(["table"] * 2 + ["knot"] + ["line"] * 6) if widths else "table"
        if sort == "table":
            coming = [f"table {random_name(source, widths)} {source.choice([1, 1, 2, 2, 3, 3, 4, 8])}"]
        elif sort == "knot":
            coming = random_knot(source, widths)
        else:
            coming = [random_line(source, random_name(source, widths), widths)]
        if len(lines) + len(coming) <= most:
            lines += coming
            widths = widths_of([line_or_none(line) for line in lines])
    return "\n".join(lines)


def random_changes(source, book, size=8):
    """Tables perhaps more than once, perhaps not at all; heaps perhaps empty."""
    tables = tables_in(book)
    names = source.choices(sorted(tables), k=source.randint(0, 3 * len(tables)))
    return [(name, random_heap(source, tables[name], source.randint(0, size))) for name in names]
