"""Gates made into tables, of their words or ways, and two gates held against each other."""

from gatewright.errors import TooMuch
from gatewright.tables import made
from gatewright.tablework import changed, first_with, many_with
from gatewright.walking import MOST_FLAT, flat

WORDS = ("let", "refuse", None)


def word_table(house, gate):
    """The Table of the words that a gate answers; NoGate, then TooMuch."""
    rows = flat(house, gate)
    return rows_table(house, rows, lambda places: word_told(rows, places))


def way_table(house, gate):
    """The Table of the ways of a gate's answers; NoGate, then TooMuch."""
    rows = flat(house, gate)
    return rows_table(house, rows, lambda places: rows[places[0]][0] if places else None)


def pair_table(house, one, other):
    """The Table of the words that two gates answer, as tuples of both; NoGate, then TooMuch."""
    house.gate(one)
    house.gate(other)
    return words_table(house, flat(house, one), flat(house, other))


def differs(house, one, other):
    """The least asking to which two gates have unlike answers, None without one; NoGate, then TooMuch."""
    return first_unlike(house, pair_table(house, one, other))


def many_differ(house, one, other):
    """To how many askings two gates have unlike answers; NoGate, then TooMuch."""
    return many_with(pair_table(house, one, other), unlike_words)


def counted(house, gate):
    """How many askings a gate lets, refuses, and does neither with; NoGate, then TooMuch."""
    table = word_table(house, gate)
    return tuple([many_told(table, word) for word in WORDS])


def woven(house, one, other, worker):
    """The Table of what a worker tells of the words that two gates answer; NoGate, then TooMuch."""
    return changed(pair_table(house, one, other), lambda both: worker(both[0], both[1]))


def rows_table(house, rows, worker):
    """The Table of what a worker tells of the places of those flat rules whose boxes have an asking."""
    mosts = [field.most() for field in house.fields()]
    return made(mosts, [box for way, word, box in rows], worker)


def words_table(house, ones, others):
    """The Table of both words that two flat lists tell; TooMuch of more than ten rules together."""
    many = len(ones)
    rows = ones + others
    if len(rows) > MOST_FLAT:
        raise TooMuch("more than ten flat rules together")

    def both_told(places):
        here = [place for place in places if place < many]
        there = [place for place in places if place >= many]
        return (word_told(rows, here), word_told(rows, there))

    return rows_table(house, rows, both_told)


def word_told(rows, places):
    """The word of the first one of some flat rules, by their places; None of none."""
    return rows[places[0]][1] if places else None


def unlike_words(both):
    """Tells whether a leaf of two words has unlike ones."""
    return both[0] != both[1]


def first_unlike(house, table):
    """The least asking whose leaf has two unlike words, None without one."""
    return asking_with(house, table, unlike_words)


def asking_with(house, table, worker):
    """The least asking whose leaf a worker tells to be True, None without one."""
    numbers = first_with(table, worker)
    return None if numbers is None else house.asking(numbers)


def many_told(table, word):
    """How many askings of a table have a word as leaf."""
    return many_with(table, lambda leaf: leaf == word)
