"""Sets of whole numbers from 0 to a most, told as tuples of stretches (LOW, HIGH)."""

from gatewright.errors import BadSet


def whole_to(most, thing):
    """Tells whether the thing is a whole number from 0 to most."""
    return isinstance(thing, int) and not isinstance(thing, bool) and 0 <= thing <= most


def is_stretch(most, thing):
    """Tells whether the thing is a stretch of the numbers from 0 to most."""
    if not isinstance(thing, tuple) or len(thing) != 2:
        return False
    low, high = thing
    return whole_to(most, low) and whole_to(most, high) and low <= high


def need_set(most, thing):
    """Refuses with BadSet what is no set of the numbers from 0 to most."""
    if not isinstance(thing, tuple):
        raise BadSet("a set is a tuple of stretches")
    free = 0
    for stretch in thing:
        if not is_stretch(most, stretch):
            raise BadSet("a stretch is a tuple of its low and its high")
        low, high = stretch
        if low < free:
            raise BadSet("stretches rise, with a number between two of them")
        # The number behind the high is the one that has to be left out.
        free = high + 2


def set_of(most, pairs):
    """The set of a list of stretches, which stand in any order and may lie in one another."""
    if not isinstance(pairs, list):
        raise BadSet("stretches are handed in as a list")
    for pair in pairs:
        if not is_stretch(most, pair):
            raise BadSet("a stretch is a tuple of its low and its high")
    return merged(sorted(pairs))


def merged(rising):
    """The set of stretches that rise by their lows."""
    found = []
    for low, high in rising:
        if found and low <= found[-1][1] + 1:
            begin, end = found.pop()
            found.append((begin, max(end, high)))
        else:
            found.append((low, high))
    return tuple(found)


def joined(one, other):
    """The set of what is in one of two sets, or in both."""
    return merged(sorted(one + other))


def cut(one, other):
    """The set of what is in both of two sets."""
    found = []
    here = there = 0
    while here < len(one) and there < len(other):
        low = max(one[here][0], other[there][0])
        high = min(one[here][1], other[there][1])
        if low <= high:
            found.append((low, high))
        # Only the stretch that ends first can meet nothing more.
        if one[here][1] < other[there][1]:
            here += 1
        else:
            there += 1
    return tuple(found)


def less(one, other):
    """The set of what is in the one set and not in the other."""
    if not one or not other:
        return one
    highest = max(one[-1][1], other[-1][1])
    return cut(one, turned(highest, other))


def turned(most, one):
    """The set of the numbers from 0 to most that are not in a set."""
    found = []
    free = 0
    for low, high in one:
        if free < low:
            found.append((free, low - 1))
        free = high + 1
    if free <= most:
        found.append((free, most))
    return tuple(found)


def has(one, number):
    """Tells whether a number is in a set."""
    begin = 0
    end = len(one)
    while begin < end:
        middle = (begin + end) // 2
        if one[middle][1] < number:
            begin = middle + 1
        else:
            end = middle
    return begin < len(one) and one[begin][0] <= number


def size(one):
    """How many numbers are in a set."""
    return sum([high - low + 1 for low, high in one])


def least(one):
    """The least number in a set, None of the empty one."""
    return one[0][0] if one else None


def parts(most, some):
    """The fewest stretches that are together 0 to most, each wholly in or out of each of some sets."""
    begins = [0, most + 1]
    for one in some:
        for low, high in one:
            begins.append(low)
            begins.append(high + 1)
    # Stretches of one set never touch, so at each of these numbers some set begins or ends.
    rising = sorted(set(begins))
    return [(low, behind - 1) for low, behind in zip(rising, rising[1:])]
