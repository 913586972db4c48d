"""Books: versions of a house, each made by a gate that is put or taken."""

from gatewright.errors import InUse, NoVersion
from gatewright.gates import first_unlike, words_table
from gatewright.house import house_of
from gatewright.reading import MOST_GATES, GateDraft, need, read, read_lines
from gatewright.sets import whole_to
from gatewright.walking import answered, flat


class Book:
    """Versions of a house, from 0 on, none of which ever changes."""

    def __init__(self, text):
        self.houses = [read(text)]

    def many(self):
        """How many versions there are."""
        return len(self.houses)

    def house(self, version=None):
        """The House of a version, of the newest one without a version; NoVersion."""
        # Made anew each time, so that it is the asker's own.
        return house_of(self.house_kept(version).plain())

    def put(self, text):
        """Puts a gate in the place of the one of its name, or behind all; tells the new version's number; BadText."""
        draft = PutDraft(self.house_kept(None))
        read_lines(draft, text)
        plain = draft.gates_plain()[0]
        gates = list(self.house_kept(None).plain()[2])
        if draft.place < len(gates):
            gates[draft.place] = plain
        else:
            gates.append(plain)
        return self.version_added(gates)

    def take(self, gate):
        """Takes a gate; tells the new version's number; NoGate, then InUse."""
        newest = self.house_kept(None)
        newest.gate(gate)
        left = [plain for plain in newest.plain()[2] if plain[0] != gate]
        if not left:
            raise InUse("the only gate")
        for plain in left:
            if gate in [rule[1] for rule in plain[2]]:
                raise InUse("another gate passes to it")
        return self.version_added(left)

    def answered(self, gate, asking, version=None):
        """What a gate answers to an asking in a version, the newest one without one; NoVersion, NoGate, BadAsking."""
        return answered(self.house_kept(version), gate, asking)

    def since(self, gate, version, other):
        """The least asking that a gate answers otherwise in another version, None without one.

        NoVersion, then NoGate, then TooMuch.
        """
        self.need_version(version)
        self.need_version(other)
        here = self.houses[version]
        there = self.houses[other]
        here.gate(gate)
        there.gate(gate)
        return first_unlike(here, words_table(here, flat(here, gate), flat(there, gate)))

    def house_kept(self, version):
        """The book's own House of a version, of the newest one where that is None; NoVersion."""
        if version is None:
            return self.houses[-1]
        self.need_version(version)
        return self.houses[version]

    def need_version(self, version):
        """Refuses with NoVersion what is no version's number."""
        if not whole_to(len(self.houses) - 1, version):
            raise NoVersion("no version of that number")

    def version_added(self, gates):
        """Adds a version that has these gates; tells its number."""
        fields, groups, _ = self.houses[-1].plain()
        self.houses.append(house_of((fields, groups, tuple(gates))))
        return len(self.houses) - 1


class PutDraft(GateDraft):
    """The gate that lines have told so far, which passes to those ahead of its place among a house's gates."""

    def __init__(self, house):
        field_named = {field.called(): field for field in house.fields()}
        super().__init__(field_named, {name: house.folk(name) for name in field_named}, [], 1)
        self.gate_names = house.gates()
        # Its place, as its line tells it; a gate of a new name stands behind all.
        self.place = len(self.gate_names)

    def add_gate(self, words):
        """Takes the gate's line; BadText."""
        super().add_gate(words)
        name = self.told_gates[0][0]
        if name in self.gate_names:
            self.place = self.gate_names.index(name)
        need(self.place < MOST_GATES)
        self.targets = self.gate_names[:self.place]
