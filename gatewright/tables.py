"""Tables of tests, which tell a leaf for each tuple of numbers."""

from gatewright.sets import has, parts


def made(mosts, boxes, worker):
    """The Table of what a worker tells of the boxes that are alive for a tuple of numbers."""
    # The worker is free to change the list that was handed in, while the table is in the making.
    own_mosts = list(mosts)
    rows = []
    for field, most in enumerate(own_mosts):
        sets = [box[field] for box in boxes]
        rows.append([(high, bits_of(sets, low)) for low, high in parts(most, sets)])
    making = Making(rows, worker)
    return making.loom.table(own_mosts, making.node(0, (1 << len(boxes)) - 1))


def bits_of(sets, number):
    """Which of some sets have a number, the first one counting 1, the next one 2 and so on."""
    return sum([1 << place for place, one in enumerate(sets) if has(one, number)])


class Table:
    """Tests, each of a field's number, that lead from the top to a leaf."""

    def __init__(self, mosts, top, tests):
        self.told_mosts = tuple(mosts)
        self.told_top = top
        self.told_tests = tuple(tests)

    def mosts(self):
        """The mosts of its fields."""
        return list(self.told_mosts)

    def top(self):
        """The goal from which it is asked."""
        return self.told_top

    def tests(self):
        """Its tests, (FIELD, WAYS) each, by their numbers."""
        return list(self.told_tests)

    def leaf(self, numbers):
        """The leaf to which a tuple of numbers leads."""
        word, told = self.told_top
        while word == "test":
            field, ways = self.told_tests[told]
            word, told = goal_of(ways, numbers[field])
        return told


def goal_of(ways, number):
    """The goal of the first way whose high isn't below a number."""
    begin = 0
    end = len(ways) - 1
    while begin < end:
        middle = (begin + end) // 2
        if ways[middle][0] < number:
            begin = middle + 1
        else:
            end = middle
    return ways[begin][1]


class Loom:
    """Nodes, tests and leaves, none of them twice, of which a least table is put together."""

    def __init__(self):
        # A node is a leaf with None ahead, or a field and ways, whose goals are the places of nodes.
        self.nodes = []
        self.place_of = {}

    def leaf_node(self, leaf):
        """The place of the node of a leaf."""
        # A leaf may be of tuples of any depth; told as a text it is a plain key.
        return self.put_node(repr(leaf), (None, leaf))

    def test_node(self, field, ways):
        """The place of the node of a test, or of its one goal, where it has no other."""
        told = []
        for high, goal in ways:
            if told and told[-1][1] == goal:
                told.pop()
            told.append((high, goal))
        if len(told) == 1:
            return told[0][1]
        node = (field, tuple(told))
        return self.put_node(node, node)

    def put_node(self, key, node):
        """The place of a node, which is put behind all others, if it isn't there."""
        if key not in self.place_of:
            self.place_of[key] = len(self.nodes)
            self.nodes.append(node)
        return self.place_of[key]

    def table(self, mosts, top):
        """The Table whose top is the node at a place."""
        goals = {}
        places = []
        self.come_to(top, goals, places)
        tests = []
        for place in places:
            field, ways = self.nodes[place]
            tests.append((field, tuple([(high, goals[goal]) for high, goal in ways])))
        return Table(mosts, goals[top], tests)

    def come_to(self, place, goals, places):
        """Tells the node at a place, and all behind it, as goals; lists the places of tests as they are come to."""
        field, told = self.nodes[place]
        if field is None:
            goals[place] = ("leaf", told)
            return
        goals[place] = ("test", len(places))
        places.append(place)
        for _, goal in told:
            if goal not in goals:
                self.come_to(goal, goals, places)


class Making:
    """A table in the making: a node for each field and each choice of boxes alive ahead of it."""

    def __init__(self, rows, worker):
        self.loom = Loom()
        # Of each field the highs of its parts, with the boxes whose sets have them.
        self.rows = rows
        self.worker = worker
        self.known = {}

    def node(self, field, alive):
        """The node for the numbers from a field on, with these boxes alive."""
        key = (field, alive)
        if key not in self.known:
            self.known[key] = self.leaf_told(alive) if field == len(self.rows) else self.test_worked(field, alive)
        return self.known[key]

    def leaf_told(self, alive):
        """The node of what the worker tells of some boxes."""
        worker = self.worker
        return self.loom.leaf_node(worker([place for place in range(alive.bit_length()) if alive >> place & 1]))

    def test_worked(self, field, alive):
        """The node of a test of a field."""
        left = []
        last = None
        for high, bits in self.rows[field]:
            still = alive & bits
            if still == last:
                left.pop()
            left.append((high, still))
            last = still
        # Many parts leave the same boxes, so each choice is asked for once.
        goals = {still: 0 for _, still in left}
        for still in list(goals):
            goals[still] = self.node(field + 1, still)
        return self.loom.test_node(field, [(high, goals[still]) for high, still in left])
