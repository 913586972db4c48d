"""A desk at which a book is asked by lines, and answers by texts."""

from gatewright.book import Book
from gatewright.errors import BadAsking, BadText, InUse, NoGate, NoVersion, TooMuch
from gatewright.gates import counted, differs
from gatewright.needs import lean
from gatewright.reasons import reason
from gatewright.words import number_in

MOST_VERSION_FIGURES = 4
OTHER_LINE = "refused line"
# How many words a line has, those with values and the one of a text apart.
MANY_WORDS = {"differ": 3, "since": 3, "count": 2, "lean": 2, "take": 2, "versions": 1}


def value_read(field, word):
    """The value of a field that a word writes; something that is no value of it, where the word writes none."""
    kind = field.plain()[1]
    if kind == "number":
        return number_in(word)
    if kind == "marks":
        if word == "-":
            return ()
        return tuple(word[1:].split("+")) if word.startswith("+") else None
    return word


def value_shown(field, value):
    """The word that writes a value of a field."""
    kind = field.plain()[1]
    if kind == "number":
        return str(value)
    if kind == "marks":
        return "".join(["+" + mark for mark in value]) if value else "-"
    return value


def asking_read(book, words):
    """The asking that words write, one for each field."""
    return tuple([value_read(field, word) for field, word in zip(book.house().fields(), words)])


def asking_shown(book, asking):
    """The values of an asking, or that there is none."""
    if asking is None:
        return "alike"
    return " ".join([value_shown(field, value) for field, value in zip(book.house().fields(), asking)])


def some_shown(words):
    """Some words, or that there are none."""
    return " ".join(words) if words else "nothing"


def ask_line(book, words):
    """Answers `ask GATE VALUE ..`."""
    word, way = book.answered(words[1], asking_read(book, words[2:]))
    if word is None:
        return "none"
    return word + " by " + " ".join([f"{gate} {place}" for gate, place in way])


def reason_line(book, words):
    """Answers `reason GATE VALUE ..`."""
    return some_shown(reason(book.house(), words[1], asking_read(book, words[2:])))


def differ_line(book, words):
    """Answers `differ GATE GATE`."""
    return asking_shown(book, differs(book.house(), words[1], words[2]))


def since_line(book, words):
    """Answers `since GATE VERSION`."""
    # The gate stands left of the version, so it is looked at first, other than by the book.
    book.house().gate(words[1])
    version = number_in(words[2]) if len(words[2]) <= MOST_VERSION_FIGURES else None
    return asking_shown(book, book.since(words[1], book.many() - 1, version))


def count_line(book, words):
    """Answers `count GATE`."""
    many_let, many_refused, many_none = counted(book.house(), words[1])
    return f"let {many_let} refuse {many_refused} none {many_none}"


def lean_line(book, words):
    """Answers `lean GATE`."""
    return some_shown([str(place) for place in lean(book.house(), words[1])])


def take_line(book, words):
    """Answers `take GATE`."""
    return str(book.take(words[1]))


def versions_line(book, words):
    """Answers `versions`."""
    return str(book.many())


def put_line(book, words):
    """Answers `put ROW ; ROW ..`."""
    return str(book.put(" ".join(words[1:]).replace(" ; ", "\n")))


ACTIONS = {
    "ask": ask_line, "reason": reason_line, "differ": differ_line, "since": since_line, "count": count_line,
    "lean": lean_line, "take": take_line, "versions": versions_line, "put": put_line,
}


def has_many(book, words):
    """Tells whether a line has as many words as its first one wants; no other first word wants any."""
    if words[0] in ("ask", "reason"):
        return len(words) == 2 + len(book.house().fields())
    if words[0] == "put":
        return len(words) >= 2
    return len(words) == MANY_WORDS.get(words[0])


def answer(book, line):
    """What a book answers to a line."""
    if not isinstance(line, str):
        return OTHER_LINE
    words = line.split(" ")
    # Between two blanks, as ahead of a first or behind a last one, stands an empty word.
    if "" in words or not has_many(book, words):
        return OTHER_LINE
    action = ACTIONS[words[0]]
    try:
        return action(book, words)
    except BadText:
        return "refused text"
    except NoGate:
        return "refused gate"
    except BadAsking:
        return "refused asking"
    except TooMuch:
        return "refused much"
    except NoVersion:
        return "refused version"
    except InUse:
        return "refused use"


def play(text, lines):
    """The answers of a new book of a text to a list of lines; BadText."""
    book = Book(text)
    return [answer(book, line) for line in lines]
