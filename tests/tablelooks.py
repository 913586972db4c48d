"""Tables looked at number by number, and boxes made by chance."""

import itertools

from gatewright.sets import set_of
from tests.looks import in_box


def alive(boxes, numbers):
    return [place for place, box in enumerate(boxes) if in_box(box, numbers)]


def all_numbers(mosts):
    return itertools.product(*[range(most + 1) for most in mosts])


def least_told(mosts, leaf_of):
    """The top and the tests of the least table by a look at every tuple of numbers."""
    def told(numbers):
        """What is told behind some numbers: a leaf, or a field and ways."""
        field = len(numbers)
        if field == len(mosts):
            return ("leaf", leaf_of(numbers))
        ways = []
        for number in range(mosts[field] + 1):
            goal = told(numbers + (number,))
            if ways and ways[-1][1] == goal:
                ways.pop()
            ways.append((number, goal))
        return ways[0][1] if len(ways) == 1 else (field, tuple(ways))

    seen, tests = [], []

    def goal_of(node):
        if node[0] == "leaf":
            return node
        if node not in seen:
            seen.append(node)
            tests.append(None)
            place = len(seen) - 1
            tests[place] = (node[0], tuple((high, goal_of(goal)) for high, goal in node[1]))
        return ("test", seen.index(node))

    top = goal_of(told(()))
    return top, tests


def set_by_chance(chance, most):
    found = []
    for _ in range(chance.choice((0, 1, 1, 2, 3))):
        low, high = sorted((chance.randint(0, most), chance.randint(0, most)))
        found.append((low, high))
    return set_of(most, found)


def boxes_by_chance(chance, mosts, many):
    found = []
    for _ in range(many):
        box = tuple(set_by_chance(chance, most) if chance.random() < 0.7 else ((0, most),) for most in mosts)
        found.append(chance.choice(found) if found and chance.random() < 0.1 else box)
    return found


WORKERS = [
    lambda places: tuple(places), lambda places: places[0] if places else None, lambda places: len(places),
    lambda places: "yes" if 0 in places else "no", lambda places: None, lambda places: len(places) % 2,
    lambda places: (("a", (len(places) % 3,)), None) if places else "none", lambda places: ((), "", 0, -1)[len(places) % 4],
    lambda places: str(len(places) % 2) if len(places) < 2 else len(places) % 2,
    lambda places: ((1,), (1, ()), ((1,),), 1, "1", "(1,)")[len(places) % 6],
]


def faults(table):
    """What the document says of each table and is not so of this one, by a look at its tests."""
    mosts, tests, found, come_to = table.mosts(), table.tests(), [], []

    def go(goal, ahead):
        if goal[0] != "test":
            return
        field, ways = tests[goal[1]]
        highs = [high for high, _ in ways]
        goals = [inner for _, inner in ways]
        if field <= ahead or highs != sorted(set(highs)) or highs[-1] != mosts[field] or len(ways) < 2:
            found.append((field, ways))
        if any(repr(one) == repr(other) for one, other in zip(goals, goals[1:])):
            found.append(("alike", ways))
        if goal[1] not in come_to:
            come_to.append(goal[1])
            for inner in goals:
                go(inner, field)

    go(table.top(), -1)
    if come_to != list(range(len(tests))) or len({repr(test) for test in tests}) != len(tests):
        found.append(come_to)
    return found
