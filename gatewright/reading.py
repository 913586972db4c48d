"""Houses and gates, read from texts of lines."""

from gatewright.atomreading import atom_read
from gatewright.errors import BadText
from gatewright.fields import field_of
from gatewright.folk import Folk
from gatewright.house import house_of
from gatewright.words import is_name, is_path, number_in

MOST_FIELDS = 4
MOST_GROUPS = 9
MOST_MEMBERS = 9
MOST_GATES = 5
MOST_RULES = 8
MOST_PASSES = 2
MOST_ATOMS = 5
ORDERS = ("first", "refusals", "narrow")
# How many things a field of words has at most, and between which numbers the one of others is.
MOST_THINGS = {"names": 9, "tree": 9, "marks": 5}
LIMITS = {"number": (0, 1000000000000), "bits": (1, 32)}


def read(text):
    """The House that a text writes; BadText."""
    draft = HouseDraft()
    read_lines(draft, text)
    fields = tuple([field.plain() for field in draft.field_named.values()])
    return house_of((fields, tuple(draft.told_groups), draft.gates_plain()))


def gate_read(house, text, names):
    """The tuple of the gate that a text writes, which passes to gates of a list of names alone; BadText."""
    named = {field.called(): field for field in house.fields()}
    draft = GateDraft(named, {name: house.folk(name) for name in named}, list(names), 1)
    read_lines(draft, text)
    return draft.gates_plain()[0]


def read_lines(draft, text):
    """Hands the words of each line that has some to a draft; BadText with the first line that is bad."""
    if not isinstance(text, str):
        raise BadText(0)
    lines = text.split("\n")
    for number, line in enumerate(lines, start=1):
        try:
            need_signs(line)
            words = line.partition("#")[0].split()
            if words:
                draft.add_line(words)
        except BadText:
            # What a line is made of doesn't know its number.
            raise BadText(number) from None
    if not draft.told_gates:
        raise BadText(len(lines) + 1)


def need_signs(line):
    """Refuses with BadText a line of other signs than those from the blank to ~, or with a percent sign."""
    for sign in line:
        if not 32 <= ord(sign) <= 126 or ord(sign) == 37:
            raise BadText()


def need(good):
    """Refuses a line with BadText, where what it wants isn't so."""
    if not good:
        raise BadText()


def need_some(words, most):
    """Refuses with BadText what are not 1 to so many unlike words."""
    need(1 <= len(words) <= most and len(set(words)) == len(words))


def things_read(kind, words):
    """The things of a field of a kind, as words write them; BadText."""
    if kind in MOST_THINGS:
        need_some(words, MOST_THINGS[kind])
        need(all([is_path(word) if kind == "tree" else is_name(word) for word in words]))
        return tuple(words)
    if kind in LIMITS:
        need(len(words) == 1)
        number = number_in(words[0])
        low, high = LIMITS[kind]
        need(number is not None and low <= number <= high)
        return number
    need(kind == "clock" and not words)
    return None


class GateDraft:
    """The gates that lines have told so far, over fields and groups, passing to gates of some names."""

    def __init__(self, field_named, folk_named, targets, most_gates):
        self.field_named = field_named
        self.folk_named = folk_named
        self.targets = targets
        self.most_gates = most_gates
        # Each gate as its name, its order and the list of its rules.
        self.told_gates = []

    def gates_plain(self):
        """The gates as tuples."""
        return tuple([(name, order, tuple(rules)) for name, order, rules in self.told_gates])

    def add_line(self, words):
        """Takes the words of a line; BadText."""
        if words[0] == "gate":
            self.add_gate(words)
        else:
            self.add_rule(words)

    def add_gate(self, words):
        """Takes a gate's line; BadText."""
        need(len(words) == 3 and self.field_named and len(self.told_gates) < self.most_gates)
        _, name, order = words
        need(is_name(name) and order in ORDERS)
        need(name not in [gate[0] for gate in self.told_gates])
        self.told_gates.append((name, order, []))

    def add_rule(self, words):
        """Takes a rule's line; BadText."""
        need(self.told_gates)
        rules = self.told_gates[-1][2]
        need(len(rules) < MOST_RULES)
        word, *rest = words
        if word == "pass":
            need(rest and rest[0] in self.targets)
            need(len([rule for rule in rules if rule[0] == "pass"]) < MOST_PASSES)
            rules.append(("pass", rest[0], self.conditions_read(rest[1:])))
        else:
            need(word in ("let", "refuse"))
            rules.append((word, None, self.conditions_read(rest)))

    def conditions_read(self, words):
        """The conditions that words write, no more than one for each field; BadText."""
        conditions = tuple([self.condition_read(word) for word in words])
        need(len(set([condition[0] for condition in conditions])) == len(conditions))
        return conditions

    def condition_read(self, word):
        """The condition that a word writes; BadText."""
        name, _, told = word.partition(":")
        need(name in self.field_named)
        is_turned = told.startswith("!")
        texts = told[1:].split("|") if is_turned else told.split("|")
        need(len(texts) <= MOST_ATOMS)
        field = self.field_named[name]
        folk = self.folk_named[name]
        return (name, is_turned, tuple([atom_read(field, folk, text) for text in texts]))


class HouseDraft(GateDraft):
    """The fields, groups and gates that lines have told so far; a gate passes to those ahead of it."""

    def __init__(self):
        super().__init__({}, {}, [], MOST_GATES)
        self.told_groups = []

    def add_line(self, words):
        """Takes the words of a line; BadText."""
        if words[0] == "field":
            self.add_field(words)
        elif words[0] == "group":
            self.add_group(words)
        else:
            if words[0] == "gate":
                self.targets = [gate[0] for gate in self.told_gates]
            super().add_line(words)

    def add_field(self, words):
        """Takes a field's line; BadText."""
        need(not self.told_groups and not self.told_gates and len(self.field_named) < MOST_FIELDS)
        need(len(words) >= 3)
        _, name, kind, *rest = words
        need(is_name(name) and name not in self.field_named)
        things = things_read(kind, rest)
        self.field_named[name] = field_of((name, kind, things))
        self.folk_named[name] = Folk(things) if kind == "names" else None

    def add_group(self, words):
        """Takes a group's line; BadText."""
        need(not self.told_gates and len(self.told_groups) < MOST_GROUPS)
        need(len(words) >= 4)
        _, name, group, *members = words
        need(name in self.field_named and self.folk_named[name] is not None)
        folk = self.folk_named[name]
        known = folk.people() + folk.groups()
        need(is_name(group) and group not in known)
        need_some(members, MOST_MEMBERS)
        need(all([member in known for member in members]))
        for member in members:
            folk.put(group, member)
        self.told_groups.append((name, group, tuple(members)))
