"""The errors by which things that are handed in are refused."""


class GateError(ValueError):
    """Over all errors of the package."""


class BadText(GateError):
    """No text of a house, of a gate or of a book; line is the first line that tells so."""

    def __init__(self, line=0):
        super().__init__("no such text, as its line tells")
        self.line = line


class BadSet(GateError):
    """No set, or no list of stretches."""


class BadValue(GateError):
    """No value of a field, or no number of one."""


class BadAsking(GateError):
    """No asking; place is that of the first value that is none, -1 where the asking is no such tuple."""

    def __init__(self, place=-1):
        super().__init__("no asking, as its place tells")
        self.place = place


class NoGate(GateError):
    """No gate of that name."""


class NoRule(GateError):
    """No rule at that place."""


class TooMuch(GateError):
    """More than is worked out."""


class BadWish(GateError):
    """No wishes; place is that of the first one that is none, -1 where they are no such list."""

    def __init__(self, place=-1):
        super().__init__("no such wishes, as the place tells")
        self.place = place


class NoName(GateError):
    """No such group or member."""


class Ring(GateError):
    """A group would be in itself."""


class NoVersion(GateError):
    """No such version."""


class InUse(GateError):
    """A gate that can't be taken."""
