"""Book words: what each kind of a book's lines has behind its word, read and shown one line at a time."""

from deltahouse.errors import NoText
from deltahouse.heaps import WIDEST
from deltahouse.texts import read_number, read_place

LETTERS = "abcdefghijklmnopqrstuvwxyz"
LONGEST_NAME = 8
CHECK_WORDS = ("is", "below", "above", "same")
MOST_PAIRS = 8
MOST_KEYS = 7
WRITTEN_FOR_NONE = "all"

FORMS = {
    "table": ("name", "width"),
    "pick": ("name", "source", "place", "check", "number"),
    "take": ("name", "source", "places"),
    "once": ("name", "source"),
    "plus": ("name", "source", "source"),
    "less": ("name", "source", "source"),
    "join": ("name", "source", "source", "pairs"),
    "left": ("name", "source", "source", "pairs"),
    "count": ("name", "source", "keys"),
    "sum": ("name", "source", "place", "keys"),
    "least": ("name", "source", "place", "keys"),
    "most": ("name", "source", "place", "keys"),
    "ring": ("name", "width"),
    "rule": ("name", "source", "places"),
}
# A rule is the one kind of line with two forms; how many words there are tells which it is.
RULE_OF_TWO = ("name", "source", "source", "pairs", "places")


def read_name(text):
    if len(text) < 1 or len(text) > LONGEST_NAME or not all([sign in LETTERS for sign in text]):
        raise NoText("this is written as no name")
    return text


def read_width(text):
    width = read_place(text)
    if width < 1 or width > WIDEST:
        raise NoText("a width is 1 to 8")
    return width


def read_check_word(text):
    if text not in CHECK_WORDS:
        raise NoText("this is no word of a check")
    return text


def listed(text, most):
    words = text.split(",")
    if len(words) > most:
        raise NoText("more is listed here than may be")
    return words


def read_places(text):
    return tuple([read_place(word) for word in listed(text, WIDEST)])


def read_pair(text):
    words = text.split("=")
    if len(words) != 2:
        raise NoText("this is written as no pair of places")
    return (read_place(words[0]), read_place(words[1]))


def read_pairs(text):
    if text == WRITTEN_FOR_NONE:
        return ()
    return tuple([read_pair(word) for word in listed(text, MOST_PAIRS)])


def read_keys(text):
    if text == WRITTEN_FOR_NONE:
        return ()
    return tuple([read_place(word) for word in listed(text, MOST_KEYS)])


def read_word(kind, word):
    if kind in ("name", "source"):
        return read_name(word)
    if kind == "width":
        return read_width(word)
    if kind == "place":
        return read_place(word)
    if kind == "places":
        return read_places(word)
    if kind == "pairs":
        return read_pairs(word)
    if kind == "keys":
        return read_keys(word)
    if kind == "check":
        return read_check_word(word)
    # The one kind left is "number"; where it is a place, the width that bounds it is not known here.
    return read_number(word)


def form_of(words):
    if words[0] not in FORMS:
        raise NoText("no line begins with this word")
    form = FORMS[words[0]]
    if words[0] == "rule" and len(words) > len(form) + 1:
        form = RULE_OF_TWO
    if len(words) != len(form) + 1:
        raise NoText("this line has more words or fewer than its kind has")
    return form


def rule_of(things):
    if len(things) == len(RULE_OF_TWO):
        return ("rule", things[0], (things[1], things[2]), things[3], things[4])
    return ("rule", things[0], (things[1],), (), things[2])


def read_line(text):
    words = text.split(" ")
    things = [read_word(kind, word) for kind, word in zip(form_of(words), words[1:])]
    if words[0] == "rule":
        return rule_of(things)
    return tuple(words[:1] + things)


def words_of(line):
    # As they are written: a rule's sources each by itself, and no pairs where there is one source.
    if line[0] != "rule":
        return list(line)
    pairs = [line[3]] if len(line[2]) == 2 else []
    return [line[0], line[1]] + list(line[2]) + pairs + [line[4]]


def things_of(line, kind):
    words = words_of(line)
    return [thing for known, thing in zip(form_of(words), words[1:]) if known == kind]


def sources_of(line):
    return things_of(line, "source")


def show_part(part):
    if isinstance(part, tuple):
        return str(part[0]) + "=" + str(part[1])
    return str(part)


def show_word(thing):
    if not isinstance(thing, tuple):
        return str(thing)
    if len(thing) == 0:
        return WRITTEN_FOR_NONE
    return ",".join([show_part(part) for part in thing])


def show_line(line):
    return " ".join([show_word(thing) for thing in words_of(line)])
