"""Houses: fields, groups and gates, as they are told."""

from gatewright.atoms import condition_set
from gatewright.errors import BadAsking, BadValue, NoGate
from gatewright.fields import field_of
from gatewright.folk import Folk


def house_of(plain):
    """The House that is told as a tuple (FIELDS, GROUPS, GATES)."""
    fields, groups, gates = plain
    return House(tuple(fields), tuple(groups), tuple(gates))


def folk_of(plain, groups):
    """A new Folk of a field, with those of some groups that are its own; None of a field without names."""
    name, kind, things = plain
    if kind != "names":
        return None
    folk = Folk(things)
    for field, group, members in groups:
        if field == name:
            for member in members:
                folk.put(group, member)
    return folk


class House:
    """Fields, groups of their people, and gates, whose rules let an asking, refuse it or pass it on."""

    def __init__(self, fields, groups, gates):
        self.told = (fields, groups, gates)
        self.own_fields = [field_of(plain) for plain in fields]
        self.own_folks = [folk_of(plain, groups) for plain in fields]
        self.gate_named = {plain[0]: plain for plain in gates}
        # The boxes of the rules of each gate that was asked for them, for they never change.
        self.boxes_found = {}

    def plain(self):
        """The tuple (FIELDS, GROUPS, GATES) that tells the house."""
        return self.told

    def fields(self):
        """Its Fields, in order."""
        return [field_of(plain) for plain in self.told[0]]

    def folk(self, name):
        """A new Folk of the field of that name, None of a field without names."""
        for plain in self.told[0]:
            if plain[0] == name:
                return folk_of(plain, self.told[1])
        return None

    def gates(self):
        """The names of its gates, as told."""
        return list(self.gate_named)

    def gate(self, name):
        """The tuple of the gate of that name; NoGate."""
        if not isinstance(name, str) or name not in self.gate_named:
            raise NoGate("no gate of that name")
        return self.gate_named[name]

    def numbers(self, asking):
        """The numbers of an asking's values; BadAsking."""
        if not isinstance(asking, tuple) or len(asking) != len(self.own_fields):
            raise BadAsking(-1)
        found = []
        for place, field in enumerate(self.own_fields):
            try:
                found.append(field.number_of(asking[place]))
            except BadValue:
                raise BadAsking(place) from None
        return tuple(found)

    def asking(self, numbers):
        """The asking whose values have these numbers."""
        return tuple([field.value_of(number) for field, number in zip(self.own_fields, numbers)])

    def box(self, conditions):
        """A set for each field, for all of which the conditions hold."""
        told = {name: (is_turned, atoms) for name, is_turned, atoms in conditions}
        found = []
        for field, folk in zip(self.own_fields, self.own_folks):
            if field.called() in told:
                is_turned, atoms = told[field.called()]
                found.append(condition_set(field, folk, is_turned, atoms))
            else:
                found.append(((0, field.most()),))
        return tuple(found)

    def boxes_of(self, name):
        """The boxes of the rules of the gate of that name, as told; NoGate."""
        rules = self.gate(name)[2]
        if name not in self.boxes_found:
            self.boxes_found[name] = tuple([self.box(rule[2]) for rule in rules])
        return self.boxes_found[name]

    def with_gate(self, plain):
        """Another House, which has one gate more, behind all others."""
        fields, groups, gates = self.told
        return House(fields, groups, gates + (plain,))
