"""Atoms, which have some values of a field, and conditions, which are made of them."""

from gatewright.sets import joined, less, set_of


def atom_of(plain):
    """The Atom that is told as a tuple, its word ahead."""
    word = plain[0]
    if word == "name":
        return NameAtom(plain[1])
    if word == "path":
        return PathAtom(plain[1])
    if word == "under":
        return UnderAtom(plain[1])
    if word == "from":
        return FromAtom(plain[1], plain[2])
    if word == "first":
        return FirstAtom(plain[1])
    if word == "marks":
        return MarksAtom(plain[1], plain[2])
    assert word == "clock"
    return ClockAtom(plain[1], plain[2])


def condition_set(field, folk, turned, atoms):
    """The set of the values for which a condition holds, by the groups as they are now."""
    found = ()
    for plain in atoms:
        found = joined(found, atom_of(plain).set_in(field, folk))
    if turned:
        return less(((0, field.most()),), found)
    return found


def set_of_numbers(field, numbers):
    """The set of some numbers of a field's values."""
    return set_of(field.most(), [(number, number) for number in numbers])


class Atom:
    """Some values of a field; under it stands a class for each word, which knows which ones."""

    def plain(self):
        """The tuple that tells the atom."""
        raise NotImplementedError("told by each word")

    def text(self, field):
        """How a house's text writes the atom in a condition of a field."""
        raise NotImplementedError("told by each word")

    def set_in(self, field, folk):
        """The set of the numbers of its values; folk is the field's, None where it has no names."""
        raise NotImplementedError("told by each word")


class NameAtom(Atom):
    """One of the people, or all who are in a group."""

    def __init__(self, name):
        self.name = name

    def plain(self):
        return ("name", self.name)

    def text(self, field):
        return self.name

    def set_in(self, field, folk):
        return set_of_numbers(field, [field.number_of(name) for name in folk.in_it(self.name)])


class PathAtom(Atom):
    """One path."""

    def __init__(self, path):
        self.path = path

    def plain(self):
        return ("path", self.path)

    def text(self, field):
        return self.path

    def set_in(self, field, folk):
        return set_of_numbers(field, [field.number_of(self.path)])


class UnderAtom(Atom):
    """A path and all that begin with it and a stroke; of the empty one all."""

    def __init__(self, path):
        self.path = path

    def plain(self):
        return ("under", self.path)

    def text(self, field):
        return self.path + "/"

    def set_in(self, field, folk):
        paths = field.plain()[2]
        return set_of_numbers(field, [number for number, path in enumerate(paths) if self.has_path(path)])

    def has_path(self, path):
        """Tells whether it has a path."""
        return self.path in ("", path) or path.startswith(self.path + "/")


class FromAtom(Atom):
    """The numbers from a low to a high; None is the least one, or the most."""

    def __init__(self, low, high):
        self.low = low
        self.high = high

    def plain(self):
        return ("from", self.low, self.high)

    def text(self, field):
        low = "" if self.low is None else str(self.low)
        high = "" if self.high is None else str(self.high)
        if low and low == high:
            return low
        return low + ".." + high

    def set_in(self, field, folk):
        low = 0 if self.low is None else self.low
        high = field.most() if self.high is None else self.high
        return ((low, high),)


class FirstAtom(Atom):
    """The texts of bits that begin with some bits."""

    def __init__(self, bits):
        self.bits = bits

    def plain(self):
        return ("first", self.bits)

    def text(self, field):
        if len(self.bits) == field.plain()[2]:
            return self.bits
        return self.bits + "*"

    def set_in(self, field, folk):
        wide = field.plain()[2]
        return ((field.number_of(self.bits.ljust(wide, "0")), field.number_of(self.bits.ljust(wide, "1"))),)


class MarksAtom(Atom):
    """The tuples that have all of some marks and none of some others."""

    def __init__(self, has_all, has_none):
        self.has_all = tuple(has_all)
        self.has_none = tuple(has_none)

    def plain(self):
        return ("marks", self.has_all, self.has_none)

    def text(self, field):
        words = []
        for mark in field.plain()[2]:
            if mark in self.has_all:
                words.append("+" + mark)
            elif mark in self.has_none:
                words.append("-" + mark)
        return "".join(words)

    def set_in(self, field, folk):
        on = field.number_of(self.has_all)
        off = field.number_of(self.has_none)
        # What is left of a number by these marks alone has to be those that are wanted.
        numbers = [number for number in range(field.most() + 1) if (number & (on | off)) == on]
        return set_of_numbers(field, numbers)


class ClockAtom(Atom):
    """The minutes from a begin to an end; round midnight, where the begin is the greater one."""

    def __init__(self, begin, end):
        self.begin = begin
        self.end = end

    def plain(self):
        return ("clock", self.begin, self.end)

    def text(self, field):
        if self.begin == self.end:
            return field.value_of(self.begin)
        return field.value_of(self.begin) + ".." + field.value_of(self.end)

    def set_in(self, field, folk):
        if self.begin <= self.end:
            return ((self.begin, self.end),)
        return set_of(field.most(), [(0, self.end), (self.begin, field.most())])
