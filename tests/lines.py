"""A second reader of a house's text, made of patterns: it tells only the first bad line."""

import re

NAME = "[a-z]{1,8}"
PATH = NAME + "(?:/" + NAME + "){0,2}"
NUMBER = "(?:0|[1-9][0-9]{0,12})"
CLOCK = "(?:[01][0-9]|2[0-3]):[0-5][0-9]"


def fits(pattern, text):
    return re.fullmatch(pattern, text) is not None


def good_things(kind, things):
    if kind in ("names", "marks", "tree"):
        one = PATH if kind == "tree" else NAME
        most = 5 if kind == "marks" else 9
        return 1 <= len(things) <= most and len(set(things)) == len(things) and all(fits(one, told) for told in things)
    if kind in ("number", "bits"):
        low, high = (0, 10 ** 12) if kind == "number" else (1, 32)
        return len(things) == 1 and fits(NUMBER, things[0]) and low <= int(things[0]) <= high
    return kind == "clock" and things == []


def good_marks(told, marks):
    if not fits("(?:[+-]" + NAME + ")+", told):
        return False
    places = [marks.index(mark) if mark in marks else None for mark in re.findall(NAME, told)]
    return None not in places and all(one < other for one, other in zip(places, places[1:]))


def good_atom(kind, things, groups, told):
    if kind == "names":
        return told in things or told in groups
    if kind == "tree":
        return told in things or told == "/" or fits(PATH + "/", told)
    if kind == "number":
        most = int(things[0])
        if fits(NUMBER, told):
            return int(told) <= most
        found = re.fullmatch("(" + NUMBER + ")?\\.\\.(" + NUMBER + ")?", told)
        ends = [int(one) for one in found.groups() if one] if found else [most + 1]
        return all(one <= most for one in ends) and (len(ends) < 2 or ends[0] < ends[1])
    if kind == "bits":
        wide = int(things[0])
        return fits("[01]*", told) and len(told) == wide or fits("[01]*[*]", told) and len(told) <= wide
    if kind == "marks":
        return good_marks(told, things)
    ends = told.split("..")
    return all(fits(CLOCK, one) for one in ends) and (len(ends) == 1 or len(ends) == 2 and ends[0] != ends[1])


class Lines:
    def __init__(self):
        self.fields, self.groups, self.gates = [], [], []

    def good(self, words):
        told = {"field": self.field, "group": self.group, "gate": self.gate}
        return told.get(words[0], self.rule)(words)

    def field(self, words):
        if self.groups or self.gates or len(self.fields) == 4 or len(words) < 3:
            return False
        if not fits(NAME, words[1]) or words[1] in [one[0] for one in self.fields]:
            return False
        self.fields.append((words[1], words[2], words[3:]))
        return good_things(words[2], words[3:])

    def named(self, name):
        found = [one for one in self.fields if one[0] == name]
        return found[0] if found else (None, None, [])

    def groups_of(self, name):
        return [group for field, group in self.groups if field == name]

    def group(self, words):
        if self.gates or len(self.groups) == 9 or not 4 <= len(words) <= 12:
            return False
        name, kind, people = self.named(words[1])
        known = people + self.groups_of(name)
        if kind != "names" or not fits(NAME, words[2]) or words[2] in known:
            return False
        self.groups.append((name, words[2]))
        return len(set(words[3:])) == len(words[3:]) and all(word in known for word in words[3:])

    def gate(self, words):
        if not self.fields or len(self.gates) == 5 or len(words) != 3 or not fits(NAME, words[1]):
            return False
        if words[1] in [name for name, _ in self.gates] or words[2] not in ("first", "refusals", "narrow"):
            return False
        self.gates.append((words[1], []))
        return True

    def rule(self, words):
        if not self.gates or words[0] not in ("let", "refuse", "pass") or len(self.gates[-1][1]) == 8:
            return False
        conditions = words[1:]
        if words[0] == "pass":
            if len(words) < 2 or words[1] not in [name for name, _ in self.gates[:-1]]:
                return False
            if self.gates[-1][1].count("pass") == 2:
                return False
            conditions = words[2:]
        self.gates[-1][1].append(words[0])
        names = [told.split(":")[0] for told in conditions]
        return len(set(names)) == len(names) and all(self.condition(told) for told in conditions)

    def condition(self, told):
        found = re.fullmatch("(" + NAME + "):(!?)(.*)", told)
        if not found:
            return False
        name, kind, things = self.named(found[1])
        atoms = found[3].split("|")
        return kind is not None and len(atoms) <= 5 and all(
            good_atom(kind, things, self.groups_of(name), atom) for atom in atoms)


def first_bad(text):
    """The first line that tells that a text is none of a house, None where it is one."""
    lines, seen = text.split("\n"), Lines()
    for number, line in enumerate(lines, start=1):
        if not fits("[ -$&-~]*", line):
            return number
        words = line.split("#")[0].split()
        if words and not seen.good(words):
            return number
    return None if seen.gates else len(lines) + 1
