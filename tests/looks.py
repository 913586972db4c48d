"""What the document says of values, atoms, conditions and rules, looked at value by value, without sets."""

import copy
import itertools
import math


def values_of(field):
    """All values of a small field, in the order of their numbers."""
    _, kind, things = field
    if kind in ("names", "tree"):
        return list(things)
    if kind == "number":
        return list(range(things + 1))
    if kind == "bits":
        return ["".join(signs) for signs in itertools.product("01", repeat=things)]
    if kind == "marks":
        return [tuple(mark for at, mark in enumerate(things) if number >> at & 1) for number in range(2 ** len(things))]
    return ["%02d:%02d" % (hours, minutes) for hours in range(24) for minutes in range(60)]


def people_of(field, groups, word):
    """The people in a group of a field, or the one whose name it is, by the groups as a house tells them."""
    members = {name: told for of, name, told in groups if of == field[0]}
    found = set()
    for member in members.get(word, ()):
        found |= people_of(field, groups, member)
    return found if word in members else {word}


def minute(text):
    return int(text[:2]) * 60 + int(text[3:])


def atom_has(field, groups, atom, value):
    """Tells whether an atom has a value, both as told."""
    word = atom[0]
    if word == "name":
        return value in people_of(field, groups, atom[1])
    if word == "path":
        return value == atom[1]
    if word == "under":
        return atom[1] == "" or value == atom[1] or value.startswith(atom[1] + "/")
    if word == "from":
        return (atom[1] is None or atom[1] <= value) and (atom[2] is None or value <= atom[2])
    if word == "first":
        return value.startswith(atom[1])
    if word == "marks":
        return all(mark in value for mark in atom[1]) and not any(mark in value for mark in atom[2])
    begin, end, at = atom[1], atom[2], minute(value)
    if begin <= end:
        return begin <= at <= end
    return at >= begin or at <= end


def condition_holds(field, groups, condition, value):
    _, turned, atoms = condition
    return any(atom_has(field, groups, atom, value) for atom in atoms) != turned


def rule_holds(house, rule, asking):
    """Tells whether an asking is in the box of a rule of a house that is told as a tuple."""
    fields, groups, _ = house
    places = {field[0]: place for place, field in enumerate(fields)}
    return all(condition_holds(fields[places[one[0]]], groups, one, asking[places[one[0]]]) for one in rule[2])


def askings_of(house):
    """All askings of a house with small fields, in order."""
    return list(itertools.product(*[values_of(field) for field in house[0]]))


def in_set(one, number):
    return any(low <= number <= high for low, high in one)


def in_box(box, numbers):
    return all(in_set(one, number) for one, number in zip(box, numbers))


def set_by_look(field, groups, condition):
    """The set of the numbers for which a condition of a small field holds."""
    found = []
    for number, value in enumerate(values_of(field)):
        if condition_holds(field, groups, condition, value):
            if found and found[-1][1] == number - 1:
                found[-1] = (found[-1][0], number)
            else:
                found.append((number, number))
    return tuple(found)


def numbers_in(one):
    return [number for low, high in one for number in range(low, high + 1)]


def value_at(field, number):
    """The value of a number, of a great field, too."""
    _, kind, things = field
    if kind == "number":
        return number
    if kind == "bits":
        return format(number, "b").rjust(things, "0")
    return values_of(field)[number]


def borders(field, conditions):
    """The numbers of a field, and one behind its most, between which no condition for it begins or ends."""
    name, kind, things = field
    if kind in ("names", "tree", "marks"):
        return list(range(len(values_of(field)) + 1))
    most = things if kind == "number" else 2 ** things - 1 if kind == "bits" else 1439
    found = {0, most + 1}
    for atom in [atom for of, _, atoms in conditions if of == name for atom in atoms]:
        if kind == "bits":
            found |= {int(atom[1].ljust(things, "0"), 2), int(atom[1].ljust(things, "1"), 2) + 1}
        else:
            found |= {atom[1] or 0, (most if atom[2] is None else atom[2]) + 1}
    return sorted(found)


def weighed_askings(plain):
    """The askings of a great house at the borders of its rules, in order, with how many are told by each."""
    conditions = [one for gate in plain[2] for rule in gate[2] for one in rule[2]]
    rows = []
    for field in plain[0]:
        rising = borders(field, conditions)
        rows.append([(value_at(field, low), behind - low) for low, behind in zip(rising, rising[1:])])
    return {tuple(value for value, _ in cell): math.prod(many for _, many in cell) for cell in itertools.product(*rows)}


class Looked:
    """A house looked at asking by asking; a great one at its borders."""

    def __init__(self, plain, great=False):
        self.plain = plain
        self.weights = weighed_askings(plain) if great else {asking: 1 for asking in askings_of(plain)}
        self.askings = list(self.weights)
        self.rules = {gate[0]: gate[2] for gate in plain[2]}
        self.orders = {gate[0]: gate[1] for gate in plain[2]}
        self.held = {name: [{asking for asking in self.askings if rule_holds(plain, rule, asking)} for rule in rules]
                     for name, rules in self.rules.items()}

    def asked(self, name):
        rules, many = self.rules[name], [sum(self.weights[asking] for asking in held) for held in self.held[name]]
        keys = {"first": lambda at: (at,), "refusals": lambda at: (rules[at][0] != "refuse", at),
                "narrow": lambda at: (many[at], at)}
        return sorted(range(len(rules)), key=keys[self.orders[name]])

    def answered(self, name, asking):
        for place in self.asked(name):
            if asking in self.held[name][place]:
                word, target, _ = self.rules[name][place]
                if word != "pass":
                    return (word, ((name, place),))
                told, way = self.answered(target, asking)
                if told is not None:
                    return (told, ((name, place),) + way)
        return (None, None)

    def flat(self, name):
        """The ways and words of the flat list, with the rules on the way."""
        found = []
        for place in self.asked(name):
            rule = self.rules[name][place]
            if rule[0] == "pass":
                for way, word, on_way in self.flat(rule[1]):
                    found.append((((name, place),) + way, word, [rule] + on_way))
            else:
                found.append((((name, place),), rule[0], [rule]))
        return found

    def box(self, on_way):
        """The box of the rules on a way: of each field the numbers for which all conditions for it hold."""
        fields, groups, _ = self.plain
        found = []
        for field in fields:
            conditions = [one for rule in on_way for one in rule[2] if one[0] == field[0]]
            numbers = [number for number, value in enumerate(values_of(field))
                       if all(condition_holds(field, groups, one, value) for one in conditions)]
            found.append(numbers)
        return found

    def without(self, name, left_out):
        """The same look, where a gate has none of the rules at some places; they keep their places."""
        other = copy.copy(self)
        other.held = dict(self.held)
        other.held[name] = [set() if at in left_out else held for at, held in enumerate(self.held[name])]
        # The order in which the others are asked stays as it was.
        order = self.asked(name)
        other.asked = lambda gate: order if gate == name else self.asked(gate)
        return other

    def words(self, name):
        """The word of each asking."""
        return {asking: self.answered(name, asking)[0] for asking in self.askings}

    def first(self, holds):
        """The least asking of which something holds, None without one."""
        return next((asking for asking in self.askings if holds(asking)), None)

    def many(self, holds):
        """Of how many askings something holds."""
        return sum(self.weights[asking] for asking in self.askings if holds(asking))

    def lean(self, name):
        """The places that are left of a gate's rules, when from the last one on each needless one is left out."""
        words, out = self.words(name), []
        places = range(len(self.rules[name]))
        for place in reversed(places):
            if self.without(name, out + [place]).words(name) == words:
                out.append(place)
        return [place for place in places if place not in out]

    def unlike(self, words, asking, names):
        """The least asking with the same values in some fields and another one of the words, None without one."""
        places = [place for place, field in enumerate(self.plain[0]) if field[0] in names]
        return self.first(lambda one: all(one[at] == asking[at] for at in places) and words[one] != words[asking])

    def reason(self, words, asking):
        """The names of the fields that are left, when from the last one on each that isn't wanted is left out."""
        names = [field[0] for field in self.plain[0]]
        left = list(names)
        for name in reversed(names):
            rest = [one for one in left if one != name]
            if self.unlike(words, asking, rest) is None:
                left = rest
        return left
