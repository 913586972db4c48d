"""Fields: what an asking has a value for, of six kinds, their values numbered from 0 on."""

from gatewright.errors import BadValue
from gatewright.sets import whole_to

LAST_MINUTE = 1439


def field_of(plain):
    """The Field that is told as a tuple (NAME, KIND, THINGS)."""
    name, kind, things = plain
    if kind == "names":
        return NamesField(name, things)
    if kind == "tree":
        return TreeField(name, things)
    if kind == "number":
        return NumberField(name, things)
    if kind == "bits":
        return BitsField(name, things)
    if kind == "marks":
        return MarksField(name, things)
    assert kind == "clock"
    return ClockField(name)


def need_number(most, number):
    """Refuses with BadValue what is no number from 0 to most."""
    if not whole_to(most, number):
        raise BadValue("no number of a value")


def word_place(words, value):
    """The place of a value among words, BadValue of what is none of them."""
    # Looked for only where it is a text, for other things may not let themselves be compared.
    if not isinstance(value, str) or value not in words:
        raise BadValue("none of the words")
    return words.index(value)


class Field:
    """A field of a house; under it stands a class for each kind, which knows its values."""

    def __init__(self, name):
        self.name = name

    def plain(self):
        """The tuple (NAME, KIND, THINGS) that tells the field."""
        raise NotImplementedError("told by each kind")

    def called(self):
        """Its name."""
        return self.name

    def most(self):
        """The number of its last value."""
        raise NotImplementedError("told by each kind")

    def number_of(self, value):
        """The number of a value, BadValue of what is none."""
        raise NotImplementedError("told by each kind")

    def value_of(self, number):
        """The value of a number, BadValue of what is no number from 0 to most."""
        raise NotImplementedError("told by each kind")


class NamesField(Field):
    """A field of names, numbered as told."""

    def __init__(self, name, names):
        super().__init__(name)
        self.names = tuple(names)

    def plain(self):
        return (self.name, "names", self.names)

    def called(self):
        return self.name

    def most(self):
        return len(self.names) - 1

    def number_of(self, value):
        return word_place(self.names, value)

    def value_of(self, number):
        need_number(self.most(), number)
        return self.names[number]


class TreeField(Field):
    """A field of paths, numbered as told."""

    def __init__(self, name, paths):
        super().__init__(name)
        self.paths = tuple(paths)

    def plain(self):
        return (self.name, "tree", self.paths)

    def called(self):
        return self.name

    def most(self):
        return len(self.paths) - 1

    def number_of(self, value):
        return word_place(self.paths, value)

    def value_of(self, number):
        need_number(self.most(), number)
        return self.paths[number]


class NumberField(Field):
    """A field of whole numbers from 0 to a highest one."""

    def __init__(self, name, highest):
        super().__init__(name)
        self.highest = highest

    def plain(self):
        return (self.name, "number", self.highest)

    def called(self):
        return self.name

    def most(self):
        return self.highest

    def number_of(self, value):
        need_number(self.highest, value)
        return value

    def value_of(self, number):
        need_number(self.highest, number)
        return number


class BitsField(Field):
    """A field of texts of just so many signs 0 and 1 as it is wide; the first sign counts most."""

    def __init__(self, name, wide):
        super().__init__(name)
        self.wide = wide

    def plain(self):
        return (self.name, "bits", self.wide)

    def called(self):
        return self.name

    def most(self):
        return (1 << self.wide) - 1

    def number_of(self, value):
        if not isinstance(value, str) or len(value) != self.wide:
            raise BadValue("not as many signs as it is wide")
        number = 0
        for sign in value:
            if sign not in "01":
                raise BadValue("a sign that is neither 0 nor 1")
            number = number * 2 + int(sign)
        return number

    def value_of(self, number):
        need_number(self.most(), number)
        return f"{number:b}".zfill(self.wide)


class MarksField(Field):
    """A field of tuples of marks, in order; the first mark counts 1, each next one twice as much."""

    def __init__(self, name, marks):
        super().__init__(name)
        self.marks = tuple(marks)

    def plain(self):
        return (self.name, "marks", self.marks)

    def called(self):
        return self.name

    def most(self):
        return (1 << len(self.marks)) - 1

    def number_of(self, value):
        if not isinstance(value, tuple):
            raise BadValue("no tuple of marks")
        number = 0
        for mark in value:
            worth = 1 << word_place(self.marks, mark)
            # A mark is worth more than all marks before it in the order together.
            if worth <= number:
                raise BadValue("marks out of order, or one twice")
            number += worth
        return number

    def value_of(self, number):
        need_number(self.most(), number)
        return tuple([mark for place, mark in enumerate(self.marks) if number >> place & 1])


class ClockField(Field):
    """A field of the texts from 00:00 to 23:59, numbered by minutes."""

    def plain(self):
        return (self.name, "clock", None)

    def called(self):
        return self.name

    def most(self):
        return LAST_MINUTE

    def number_of(self, value):
        if not isinstance(value, str) or len(value) != 5 or value[2] != ":":
            raise BadValue("no text of hours and minutes")
        figures = value[:2] + value[3:]
        # isdigit alone would take the figures of other scripts, too.
        if not figures.isascii() or not figures.isdigit():
            raise BadValue("hours and minutes are two figures each")
        hours = int(value[:2])
        minutes = int(value[3:])
        if hours > 23 or minutes > 59:
            raise BadValue("past the last hour or minute")
        return hours * 60 + minutes

    def value_of(self, number):
        need_number(LAST_MINUTE, number)
        hours, minutes = divmod(number, 60)
        return f"{hours:02d}:{minutes:02d}"
