"""Things of many kinds, of which a program may take none for a set, a value or a number."""


class Thorny:
    """Lets nothing be asked of it: whoever compares, hashes, measures or iterates it fails."""

    def fail(self, *rest):
        raise RuntimeError("looked into")

    __eq__ = __ne__ = __lt__ = __le__ = __gt__ = __ge__ = fail
    __hash__ = __len__ = __iter__ = __getitem__ = __contains__ = fail
    __bool__ = __index__ = __int__ = __str__ = __repr__ = fail


def odd_things():
    """None of them is a tuple, a list, a text or a whole number."""
    ring = {}
    ring["self"] = ring
    return [
        None, True, False, ..., NotImplemented, 1j,
        b"", b"a", b"0101", b"07:05", bytearray(b"01"),
        {}, {"a": 1}, {0: 1}, ring, set(), {0}, frozenset(), frozenset([0]),
        range(0), range(2), iter([]), zip([0], [1]), (number for number in [0]),
        object(), Thorny(), len, lambda: 0, int, str, tuple, ValueError("a"),
    ]


def odd_numbers():
    """Whole numbers that are far out of the limits."""
    return [-1, -2, -(10 ** 12), -(10 ** 5000), 10 ** 13, 10 ** 5000]


def odd_lists():
    ring = []
    ring.append(ring)
    return [[], [0], [1, 2], ["a"], [None], [[0, 1]], [Thorny()], ring]
