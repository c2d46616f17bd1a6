"""Books: the questions of a house, read of a text and shown as one."""

from deltahouse.bookwords import read_line, show_line, sources_of, things_of
from deltahouse.errors import NoBook, NoText
from deltahouse.heaps import WIDEST
from deltahouse.joins import first_places, second_places
from deltahouse.stations import rings_of, rules_of, stations_of

MOST_LINES = 24
GROUP_WORDS = ("count", "sum", "least", "most")


def lines_of(text):
    if not isinstance(text, str):
        raise NoBook("a book is read of a text alone")
    rows = text.split("\n")
    if len(rows) > MOST_LINES:
        raise NoBook("a book has at most twenty-four lines")
    try:
        return [read_line(row) for row in rows]
    except NoText as e:
        raise NoBook(str(e)) from e


def places_asked(line, given):
    # Each place with the width below which it must lie. All but pairs are asked of the sources laid side by side.
    width = sum(given)
    told = [(place, width) for place in things_of(line, "place")]
    for places in things_of(line, "places") + things_of(line, "keys"):
        told.extend([(place, width) for place in places])
    for pairs in things_of(line, "pairs"):
        told.extend([(place, given[0]) for place in first_places(pairs)])
        told.extend([(place, given[1]) for place in second_places(pairs)])
    if things_of(line, "check") == ["same"]:
        told.extend([(place, width) for place in things_of(line, "number")])
    return told


def width_of(line, given):
    word = line[0]
    if word in ("table", "ring"):
        return line[2]
    if word == "take":
        return len(line[3])
    if word == "join":
        return sum(given)
    if word in GROUP_WORDS:
        return len(line[-1]) + 1
    return given[0]


def widths_given(line, widths):
    sources = sources_of(line)
    if not all([name in widths for name in sources]):
        raise NoBook("a line asks over a name that no line above has")
    return [widths[name] for name in sources]


def check_line(line, given):
    if not all([0 <= place and place < width for place, width in places_asked(line, given)]):
        raise NoBook("a place is not less than the width of that of which it is asked")
    if line[0] in ("plus", "less") and given[0] != given[1]:
        raise NoBook("plus and less are asked over two of one width")
    if line[0] == "join" and sum(given) > WIDEST:
        raise NoBook("what is joined has at most eight numbers in a row")


def check_rules(station, widths):
    rings = rings_of(station)
    for rule in rules_of(station):
        if rule[1] not in rings:
            raise NoBook("a rule is for no ring of its own knot")
        if len(rule[4]) != widths[rule[1]]:
            raise NoBook("a rule has other than as many places as its ring is wide")


def read_book(text):
    book = lines_of(text)
    widths = {}
    for line in book:
        given = widths_given(line, widths)
        check_line(line, given)
        # A rule's name is its ring's, which stands above with a width of its own.
        if line[0] != "rule":
            if line[1] in widths:
                raise NoBook("two lines have one name")
            widths[line[1]] = width_of(line, given)
    for station in stations_of(book):
        check_rules(station, widths)
    return book


def show_book(book):
    return "\n".join([show_line(line) for line in book])
