"""Reasons: which fields of an asking are enough for its answer."""

from gatewright.gates import word_table
from gatewright.tablework import first_with, fixed


def unlike(house, gate, asking, names):
    """The least asking with the same values in some fields and another answer, None where they are enough.

    NoGate, then BadAsking, then TooMuch.
    """
    house.gate(gate)
    numbers = house.numbers(asking)
    return unlike_found(house, word_table(house, gate), numbers, names)


def reason(house, gate, asking):
    """The names of the fields that are left, when from the last one on each that isn't wanted is left out.

    NoGate, then BadAsking, then TooMuch.
    """
    house.gate(gate)
    numbers = house.numbers(asking)
    table = word_table(house, gate)
    names = [field.called() for field in house.fields()]
    left = list(names)
    for name in reversed(names):
        rest = [one for one in left if one != name]
        if unlike_found(house, table, numbers, rest) is None:
            left = rest
    return left


def unlike_found(house, table, numbers, names):
    """The least asking with the same numbers in some fields and another leaf, None without one."""
    kept = [place for place, field in enumerate(house.fields()) if field.called() in names]
    leaf = table.leaf(numbers)
    for place in kept:
        table = fixed(table, place, numbers[place])
    found = first_with(table, lambda told: told != leaf)
    if found is None:
        return None
    # What is found has any number in a fixed field, which has no test any more.
    return house.asking(tuple([numbers[place] if place in kept else found[place] for place in range(len(numbers))]))
