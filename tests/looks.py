"""What the document says of values, atoms, conditions and rules, looked at value by value, without sets."""

import itertools


def values_of(field):
    """All values of a small field, in the order of their numbers."""
    _, kind, things = field
    if kind in ("names", "tree"):
        return list(things)
    if kind == "number":
        return list(range(things + 1))
    if kind == "bits":
        return ["".join(signs) for signs in itertools.product("01", repeat=things)]
    if kind == "marks":
        return [tuple(mark for at, mark in enumerate(things) if number >> at & 1) for number in range(2 ** len(things))]
    return ["%02d:%02d" % (hours, minutes) for hours in range(24) for minutes in range(60)]


def people_of(field, groups, word):
    """The people in a group of a field, or the one whose name it is, by the groups as a house tells them."""
    members = {name: told for of, name, told in groups if of == field[0]}
    found = set()
    for member in members.get(word, ()):
        found |= people_of(field, groups, member)
    return found if word in members else {word}


def minute(text):
    return int(text[:2]) * 60 + int(text[3:])


def atom_has(field, groups, atom, value):
    """Tells whether an atom has a value, both as told."""
    word = atom[0]
    if word == "name":
        return value in people_of(field, groups, atom[1])
    if word == "path":
        return value == atom[1]
    if word == "under":
        return atom[1] == "" or value == atom[1] or value.startswith(atom[1] + "/")
    if word == "from":
        return (atom[1] is None or atom[1] <= value) and (atom[2] is None or value <= atom[2])
    if word == "first":
        return value.startswith(atom[1])
    if word == "marks":
        return all(mark in value for mark in atom[1]) and not any(mark in value for mark in atom[2])
    begin, end, at = atom[1], atom[2], minute(value)
    if begin <= end:
        return begin <= at <= end
    return at >= begin or at <= end


def condition_holds(field, groups, condition, value):
    _, turned, atoms = condition
    return any(atom_has(field, groups, atom, value) for atom in atoms) != turned


def rule_holds(house, rule, asking):
    """Tells whether an asking is in the box of a rule of a house that is told as a tuple."""
    fields, groups, _ = house
    places = {field[0]: place for place, field in enumerate(fields)}
    return all(condition_holds(fields[places[one[0]]], groups, one, asking[places[one[0]]]) for one in rule[2])


def askings_of(house):
    """All askings of a house with small fields, in order."""
    return list(itertools.product(*[values_of(field) for field in house[0]]))


def in_set(one, number):
    return any(low <= number <= high for low, high in one)


def in_box(box, numbers):
    return all(in_set(one, number) for one, number in zip(box, numbers))


def set_by_look(field, groups, condition):
    """The set of the numbers for which a condition of a small field holds."""
    found = []
    for number, value in enumerate(values_of(field)):
        if condition_holds(field, groups, condition, value):
            if found and found[-1][1] == number - 1:
                found[-1] = (found[-1][0], number)
            else:
                found.append((number, number))
    return tuple(found)
