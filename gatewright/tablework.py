"""Tables worked on: combined, changed, fixed in a field, and asked for what they tell."""

from gatewright.errors import TooMuch
from gatewright.tables import Loom, Table, goal_of

MOST_PAIRS = 4000
NO_LEAF = ("leaf", 0)


def combined(one, other, worker):
    """The Table of what a worker tells of the leaves of two tables over the same fields; TooMuch."""
    if len(one.tests()) * len(other.tests()) > MOST_PAIRS:
        raise TooMuch("too many pairs of tests")
    combining = Combining(one, other, worker)
    return combining.loom.table(one.mosts(), combining.node(one.top(), other.top()))


def changed(table, worker):
    """The Table of what a worker tells of the leaves of a table."""
    blank = Table(table.mosts(), NO_LEAF, [])
    return combined(table, blank, lambda leaf, nothing: worker(leaf))


def fixed(table, place, number):
    """The Table of what is left for the other fields, where the one at a place has one number alone."""
    tests = []
    for field, ways in table.tests():
        if field == place:
            # A test with one way alone falls away when the table is put together.
            tests.append((field, ((ways[-1][0], goal_of(ways, number)),)))
        else:
            tests.append((field, ways))
    return changed(Table(table.mosts(), table.top(), tests), lambda leaf: leaf)


def leaves(table):
    """The leaves of a table, each once, as they are come to from the top."""
    tests = table.tests()
    seen = {}
    found = []
    waiting = [table.top()]
    while waiting:
        goal = waiting.pop()
        key = goal_key(goal)
        if key not in seen:
            seen[key] = True
            word, told = goal
            if word == "leaf":
                found.append(told)
            else:
                # The first way is the last to be put, for it is the first to be taken.
                waiting.extend([inner for _, inner in reversed(tests[told][1])])
    return found


def first_with(table, worker):
    """The least tuple of numbers whose leaf a worker tells to be True, None without one."""
    told_good = marked(table, worker)
    tests = told_good.tests()
    numbers = [0] * len(told_good.mosts())
    goal = told_good.top()
    while goal[0] == "test":
        field, ways = tests[goal[1]]
        # Unlike goals stand side by side, so where the first way leads to nothing the second one doesn't.
        at = 1 if ways[0][1] == NO_LEAF else 0
        numbers[field] = ways[0][0] + 1 if at else 0
        goal = ways[at][1]
    return None if goal == NO_LEAF else tuple(numbers)


def many_with(table, worker):
    """How many tuples of numbers have a leaf that a worker tells to be True."""
    told_good = marked(table, worker)
    return Counting(told_good).many(told_good.top(), 0)


def marked(table, worker):
    """The Table whose leaves are 1 where a worker tells True of a leaf, and 0 where it tells anything else."""
    return changed(table, lambda leaf: 1 if worker(leaf) is True else 0)


def goal_key(goal):
    """A plain key for a goal of a table, for a leaf may be of tuples of any depth."""
    word, told = goal
    return told if word == "test" else repr(told)


def ways_laid(ones, others):
    """The ways of two tests of one field, laid over each other: each high with both goals."""
    found = []
    here = there = 0
    while here < len(ones) and there < len(others):
        one_high, one = ones[here]
        other_high, other = others[there]
        found.append((min(one_high, other_high), one, other))
        if one_high <= other_high:
            here += 1
        if other_high <= one_high:
            there += 1
    return found


class Combining:
    """A table in the making: a node for each two goals that some numbers lead to together."""

    def __init__(self, one, other, worker):
        self.loom = Loom()
        self.field_mosts = one.mosts()
        self.one_tests = one.tests()
        self.other_tests = other.tests()
        self.worker = worker
        self.known = {}

    def node(self, one, other):
        """The node for two goals."""
        key = (goal_key(one), goal_key(other))
        if key not in self.known:
            self.known[key] = self.worked(one, other)
        return self.known[key]

    def worked(self, one, other):
        """The node of what the worker tells of two leaves, or of a test that leads on from two goals."""
        field = min(self.field_at(self.one_tests, one), self.field_at(self.other_tests, other))
        if field == len(self.field_mosts):
            worker = self.worker
            return self.loom.leaf_node(worker(one[1], other[1]))
        laid = ways_laid(self.ways_at(self.one_tests, one, field), self.ways_at(self.other_tests, other, field))
        return self.loom.test_node(field, [(high, self.node(here, there)) for high, here, there in laid])

    def field_at(self, tests, goal):
        """The field of the test that a goal is, of a leaf the place behind all fields."""
        word, told = goal
        return tests[told][0] if word == "test" else len(self.field_mosts)

    def ways_at(self, tests, goal, field):
        """The ways on from a goal by a field, one alone where the goal tests another field, or none."""
        if self.field_at(tests, goal) == field:
            return tests[goal[1]][1]
        return ((self.field_mosts[field], goal),)


class Counting:
    """Tuples of numbers counted that lead to the leaf 1 of a table whose leaves are 1 and 0."""

    def __init__(self, table):
        self.field_mosts = table.mosts()
        self.old_tests = table.tests()
        # For each test counted how many there are, from its field on.
        self.known = {}

    def many(self, goal, field):
        """How many there are behind a goal, of the numbers from a field on."""
        word, told = goal
        if word == "leaf":
            return told * self.all_between(field, len(self.field_mosts))
        if told not in self.known:
            self.known[told] = self.many_at(told)
        return self.known[told] * self.all_between(field, self.old_tests[told][0])

    def many_at(self, number):
        """How many there are behind the test of a number, from its field on."""
        field, ways = self.old_tests[number]
        total = 0
        free = 0
        for high, goal in ways:
            total += (high + 1 - free) * self.many(goal, field + 1)
            free = high + 1
        return total

    def all_between(self, begin, end):
        """How many choices of numbers the fields from one on, ahead of another, have."""
        many = 1
        for most in self.field_mosts[begin:end]:
            many *= most + 1
        return many
