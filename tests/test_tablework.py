import itertools
import math
import random
import unittest

from gatewright import tablework
from gatewright.errors import TooMuch
from gatewright.sets import cut, set_of
from gatewright.tables import Table, made
from gatewright.tablework import changed, combined, first_with, fixed, leaves, many_with
from tests.odd import Thorny, odd_things
from tests.tablelooks import WORKERS, alive, all_numbers, boxes_by_chance, faults, least_told

HIGH = 10 ** 12
BOTH = [
    lambda one, other: (one, other), lambda one, other: one, lambda one, other: other,
    lambda one, other: "alike" if repr(one) == repr(other) else "unlike", lambda one, other: None,
    lambda one, other: (other, (one,), "x"), lambda one, other: len(repr(one)) + len(repr(other)),
]
BOXES = [(((0, 4),), ((0, 2),)), (((3, 9),), ((1, 5),)), (((4, 4),), ((0, 9),))]
OTHERS = [(((2, 3), (6, 9)), ((0, 9),)), (((0, 9),), ((5, 5),))]


def whole(table):
    """All that a table tells, leaves of like looks apart."""
    return repr((table.mosts(), table.top(), table.tests()))


def told_least(mosts, leaf_of):
    top, tests = least_told(mosts, leaf_of)
    return repr((list(mosts), top, tests))


def mosts_by_chance(chance, fields):
    return [chance.randint(0, (12, 6, 4, 2)[fields - 1]) for _ in range(fields)]


def bit_set(most, bit):
    """The set of the numbers to most that have a bit."""
    return set_of(most, [(number, number) for number in range(most + 1) if number >> bit & 1])


def many_tests(many, mosts):
    """A table of so many tests, 2 to 120: one of the first field, the others of the last one."""
    return bits_made(mosts, 0, many, lambda bit: ((bit, bit),), tuple)


def bits_table(mosts, at):
    """A table whose leaf is the number of a field."""
    return bits_made(mosts, at, mosts[at] + 1, lambda bit: ((0, mosts[-1]),), lambda places: sum(1 << place for place in places))


def bits_made(mosts, at, many, last, worker):
    """A table of seven boxes, each of the numbers below so many of a field that have a bit, and of a set of the last field."""
    boxes = []
    for bit in range(7):
        sets = [((0, most),) for most in mosts]
        sets[-1] = last(bit)
        sets[at] = cut(bit_set(mosts[at], bit), ((0, many - 1),))
        boxes.append(tuple(sets))
    return made(mosts, boxes, worker)


class Combined(unittest.TestCase):
    def test_ordinary(self):
        one = made([9], [(((2, 4),),)], lambda places: "in" if places else "out")
        other = made([9], [(((4, 6),),)], lambda places: "a" if places else None)
        told = combined(one, other, lambda here, there: (here, there))
        self.assertIsInstance(told, Table)
        self.assertEqual(told.mosts(), [9])
        self.assertEqual(told.top(), ("test", 0))
        self.assertEqual(told.tests(), [(0, (
            (1, ("leaf", ("out", None))), (3, ("leaf", ("in", None))), (4, ("leaf", ("in", "a"))),
            (6, ("leaf", ("out", "a"))), (9, ("leaf", ("out", None)))))])

    def test_tests_of_different_fields(self):
        one = made([3, 5], [(((1, 2),), ((0, 5),))], len)
        other = made([3, 5], [(((0, 3),), ((4, 5),))], len)
        told = combined(one, other, lambda here, there: here + there)
        self.assertEqual(told.top(), ("test", 0))
        self.assertEqual(told.tests(), [
            (0, ((0, ("test", 1)), (2, ("test", 2)), (3, ("test", 1)))),
            (1, ((3, ("leaf", 0)), (5, ("leaf", 1)))), (1, ((3, ("leaf", 1)), (5, ("leaf", 2))))])
        self.assertEqual(whole(combined(other, one, lambda here, there: here + there)), whole(told))

    def test_with_a_table_of_no_tests(self):
        one = made([9, 9], BOXES, tuple)
        blank = made([9, 9], [], lambda places: "blank")
        self.assertEqual(whole(combined(one, blank, lambda here, there: here)), whole(one))
        self.assertEqual(whole(combined(blank, one, lambda here, there: (here, there))),
                         whole(changed(one, lambda leaf: ("blank", leaf))))
        told = combined(blank, blank, lambda here, there: here + there)
        self.assertEqual((told.mosts(), told.top(), told.tests()), ([9, 9], ("leaf", "blankblank"), []))

    def test_with_itself(self):
        one = made([9, 9], BOXES, tuple)
        self.assertEqual(whole(combined(one, one, lambda here, there: here)), whole(one))
        told = combined(one, one, lambda here, there: "alike" if here == there else "unlike")
        self.assertEqual((told.top(), told.tests()), (("leaf", "alike"), []))

    def test_the_very_same_as_made_of_all_boxes(self):
        chance = random.Random(61)
        for fields in (1, 2, 3, 4):
            for _ in range(40):
                mosts = mosts_by_chance(chance, fields)
                boxes, others = boxes_by_chance(chance, mosts, chance.randint(0, 5)), boxes_by_chance(chance, mosts, 5)
                worker, other_worker, both = chance.choice(WORKERS), chance.choice(WORKERS), chance.choice(BOTH)
                one, other = made(mosts, boxes, worker), made(mosts, others, other_worker)
                told = combined(one, other, both)

                def joint(places):
                    here = worker([place for place in places if place < len(boxes)])
                    return both(here, other_worker([place - len(boxes) for place in places if place >= len(boxes)]))

                self.assertEqual(whole(told), whole(made(mosts, boxes + others, joint)))
                self.assertEqual(whole(told), told_least(mosts, lambda numbers: both(one.leaf(numbers), other.leaf(numbers))))

    def test_each_worker(self):
        for worker, both in itertools.product(WORKERS, BOTH):
            one, other = made([9, 9], BOXES, worker), made([9, 9], OTHERS, tuple)
            told = combined(one, other, both)
            self.assertEqual(whole(told), told_least([9, 9], lambda numbers: both(one.leaf(numbers), other.leaf(numbers))))
            self.assertEqual(faults(told), [])

    def test_great_mosts(self):
        one = made([HIGH, HIGH], [(((5, HIGH - 1),), ((0, 0), (HIGH, HIGH)))], len)
        other = made([HIGH, HIGH], [(((HIGH - 1, HIGH),), ((0, HIGH - 1),))], len)
        told = combined(one, other, lambda here, there: here * 2 + there)
        self.assertEqual(faults(told), [])
        ends = (0, 1, 4, 5, HIGH - 2, HIGH - 1, HIGH)
        for numbers in itertools.product(ends, ends):
            self.assertEqual(told.leaf(numbers), one.leaf(numbers) * 2 + other.leaf(numbers))

    def test_tables_that_were_combined_go_on(self):
        one, other = made([9, 9], BOXES, tuple), made([9, 9], OTHERS, tuple)
        first = combined(one, other, lambda here, there: (here, there))
        told = combined(first, combined(other, one, lambda here, there: here), lambda here, there: here[1] == there and "x")
        self.assertEqual((told.top(), told.tests()), (("leaf", "x"), []))

    def test_tables_handed_in_stay(self):
        one, other = made([9, 9], BOXES, tuple), made([9, 9], OTHERS, len)
        before = whole(one), whole(other)

        def worker(here, there):
            one.tests().clear()
            other.mosts().clear()
            return (here, there)

        told = combined(one, other, worker)
        self.assertEqual((whole(one), whole(other)), before)
        after = whole(told)
        told.tests().clear()
        told.mosts().append(3)
        combined(told, one, lambda here, there: None)
        self.assertEqual(whole(told), after)

    def test_a_worker_is_handed_leaves_alone(self):
        one, other = made([9, 9], BOXES, tuple), made([9, 9], OTHERS, lambda places: (("deep", tuple(places)),))
        seen = []

        def worker(here, there):
            seen.append((here, there))
            return "x"

        combined(one, other, worker)
        self.assertEqual(set(seen), {(one.leaf(numbers), other.leaf(numbers)) for numbers in all_numbers([9, 9])})
        seen.clear()
        changed(one, lambda leaf: worker(leaf, None))
        self.assertEqual({here for here, _ in seen}, {one.leaf(numbers) for numbers in all_numbers([9, 9])})

    def test_a_failing_worker(self):
        def worker(*leaf):
            raise KeyError("of its own")

        one = made([9, 9], BOXES, tuple)
        before = whole(one)
        for ask in (lambda: combined(one, one, worker), lambda: changed(one, worker), lambda: first_with(one, worker),
                    lambda: many_with(one, worker)):
            with self.assertRaises(KeyError):
                ask()
        self.assertEqual(whole(one), before)


class Refused(unittest.TestCase):
    def refused(self, one, other):
        before = whole(one), whole(other)
        asked = []
        with self.assertRaises(TooMuch) as caught:
            combined(one, other, lambda here, there: asked.append(0))
        self.assertIs(type(caught.exception), TooMuch)
        self.assertEqual((asked, (whole(one), whole(other))), ([], before))

    def taken(self, one, other, mosts):
        told = combined(one, other, lambda here, there: (here, there))
        self.assertEqual(faults(told), [])
        chance = random.Random(62)
        for _ in range(300):
            numbers = tuple(chance.randint(0, most) for most in mosts)
            self.assertEqual(told.leaf(numbers), (one.leaf(numbers), other.leaf(numbers)))

    def test_above_4000(self):
        for here, there in ((50, 80), (40, 100), (80, 50), (62, 64), (63, 63)):
            mosts = [99, 7]
            one, other = many_tests(here, mosts), many_tests(there, mosts)
            self.assertEqual((len(one.tests()), len(other.tests())), (here, there))
            self.taken(one, other, mosts)
        for here, there in ((58, 69), (69, 58), (63, 64), (50, 81), (41, 98)):
            one, other = many_tests(here, [99, 7]), many_tests(there, [99, 7])
            self.assertEqual((len(one.tests()), len(other.tests())), (here, there))
            self.assertGreater(here * there, 4000)
            self.refused(one, other)

    def counted_up(self, here, there):
        """A table of 1 + here + here * there tests."""
        mosts = [here - 1, there - 1, 1]
        told = [bits_table(mosts, 0), bits_table(mosts, 1), made(mosts, [(((0, here - 1),), ((0, there - 1),), ((1, 1),))], len)]
        both = combined(told[0], told[1], lambda one, other: (one, other))
        return combined(both, told[2], lambda one, other: (one, other)), told[2]

    def test_at_the_border(self):
        for here, there in ((93, 42), (43, 92)):
            great, single = self.counted_up(here, there)
            self.assertEqual((len(great.tests()), len(single.tests())), (4000, 1))
            self.taken(great, single, great.mosts())
            self.taken(single, great, great.mosts())
        for here, there in ((50, 79), (80, 49)):
            great, single = self.counted_up(here, there)
            self.assertEqual((len(great.tests()), len(single.tests())), (4001, 1))
            self.refused(great, single)
            self.refused(single, great)

    def test_of_one_with_very_many(self):
        mosts = [63, 63, 7]
        single = made(mosts, [(((0, 63),), ((0, 63),), ((0, 3),))], len)
        blank = made(mosts, [], lambda places: None)
        for here, many in ((62, 3968), (63, 4032)):
            one, other = many_tests(here, mosts), bits_made(mosts, 1, 63, lambda bit: ((bit, bit),), tuple)
            great = combined(one, other, lambda here, there: (here, there))
            self.assertEqual((len(great.tests()), len(single.tests())), (many, 1))
            if many > 4000:
                self.refused(great, single)
                self.refused(single, great)
            else:
                self.taken(great, single, mosts)
                self.taken(single, great, mosts)
            # Nothing but two tables combined is refused so, and no test times any many is none.
            self.taken(great, blank, mosts)
            self.taken(blank, great, mosts)
            self.assertEqual(whole(changed(great, lambda leaf: leaf)), whole(great))
            self.assertEqual(fixed(fixed(fixed(great, 0, 1), 1, 1), 2, 0).top(), ("leaf", ((0,), (0,))))
            self.assertEqual(first_with(great, lambda leaf: leaf == ((0,), (1,))), None)
            self.assertEqual(many_with(great, lambda leaf: True), 64 * 64 * 8)


class Changed(unittest.TestCase):
    def test_ordinary(self):
        table = made([9], [(((2, 4),),), (((4, 6),),)], tuple)
        told = changed(table, lambda leaf: len(leaf) or None)
        self.assertIsInstance(told, Table)
        self.assertEqual(told.tests(), [(0, ((1, ("leaf", None)), (3, ("leaf", 1)), (4, ("leaf", 2)), (6, ("leaf", 1)),
                                            (9, ("leaf", None))))])
        self.assertEqual(table.tests()[0][1][0], (1, ("leaf", ())))

    def test_to_one_leaf(self):
        table = made([9, 9], BOXES, tuple)
        for leaf in (None, "", 0, (), ("a", (None,))):
            told = changed(table, lambda old: leaf)
            self.assertEqual((told.mosts(), told.top(), told.tests()), ([9, 9], ("leaf", leaf), []))

    def test_tests_that_come_to_be_alike(self):
        table = made([2, 3], [(((0, 0),), ((0, 1),)), (((2, 2),), ((0, 1),))], tuple)
        self.assertEqual(len(table.tests()), 3)
        told = changed(table, lambda leaf: "in" if leaf else "out")
        self.assertEqual(told.tests(), [(0, ((0, ("test", 1)), (1, ("leaf", "out")), (2, ("test", 1)))),
                                        (1, ((1, ("leaf", "in")), (3, ("leaf", "out"))))])

    def test_by_chance(self):
        chance = random.Random(63)
        workers = [lambda leaf: leaf, lambda leaf: (leaf, leaf), lambda leaf: repr(leaf), lambda leaf: len(repr(leaf)) % 2,
                   lambda leaf: None, lambda leaf: "x" if leaf == () else leaf]
        for fields in (1, 2, 3, 4):
            for _ in range(40):
                mosts = mosts_by_chance(chance, fields)
                table = made(mosts, boxes_by_chance(chance, mosts, chance.randint(0, 6)), chance.choice(WORKERS))
                before = whole(table)
                worker = chance.choice(workers)
                told = changed(table, worker)
                self.assertEqual(whole(told), told_least(mosts, lambda numbers: worker(table.leaf(numbers))))
                self.assertEqual(whole(table), before)

    def test_leaves_of_like_looks_are_unlike(self):
        told = [None, "None", 0, "0", (), "()", "", (0,), ((0,),), ("0",), (None,)]
        boxes = [(((number, number),),) for number in range(10)]
        table = made([10], boxes, lambda places: places[0] if places else 10)
        self.assertEqual([goal for _, goal in changed(table, lambda leaf: told[leaf]).tests()[0][1]],
                         [("leaf", leaf) for leaf in told])

    def test_deep_leaves(self):
        def deep(leaf):
            told = ()
            for number in range(50):
                told = (number + len(leaf), told)
            return told

        table = made([9, 9], BOXES, tuple)
        told = changed(changed(table, deep), lambda leaf: leaf)
        for numbers in all_numbers([9, 9]):
            self.assertEqual(told.leaf(numbers), deep(table.leaf(numbers)))
        self.assertEqual(whole(combined(told, told, lambda here, there: here)), whole(told))
        self.assertEqual(set(leaves(told)), {deep(leaf) for leaf in leaves(table)})
        self.assertEqual(many_with(told, lambda leaf: leaf == deep(())), many_with(table, lambda leaf: leaf == ()))


class Fixed(unittest.TestCase):
    def of_the_boxes(self, mosts, boxes, worker, place, number):
        """The table made of the boxes that have the number, open in that field."""
        left = [at for at, box in enumerate(boxes) if alive([(box[place],)], (number,))]
        opened = [tuple(((0, mosts[place]),) if field == place else one for field, one in enumerate(boxes[at])) for at in left]
        return made(mosts, opened, lambda places: worker([left[at] for at in places]))

    def test_ordinary(self):
        table = made([5, 9], [(((0, 1),), ((0, 9),)), (((0, 3),), ((5, 5),))], len)
        told = fixed(table, 0, 3)
        self.assertIsInstance(told, Table)
        self.assertEqual(told.mosts(), [5, 9])
        self.assertEqual((told.top(), told.tests()),
                         (("test", 0), [(1, ((4, ("leaf", 0)), (5, ("leaf", 1)), (9, ("leaf", 0))))]))
        self.assertEqual(fixed(table, 0, 4).top(), ("leaf", 0))
        self.assertEqual(fixed(table, 1, 5).tests(), [(0, ((1, ("leaf", 2)), (3, ("leaf", 1)), (5, ("leaf", 0))))])
        self.assertEqual(fixed(table, 1, 0).tests(), [(0, ((1, ("leaf", 1)), (5, ("leaf", 0))))])
        self.assertEqual(len(table.tests()), 3)

    def test_each_number(self):
        chance = random.Random(64)
        for fields in (1, 2, 3, 4):
            for _ in range(15):
                mosts = mosts_by_chance(chance, fields)
                boxes, worker = boxes_by_chance(chance, mosts, chance.randint(0, 7)), chance.choice(WORKERS)
                table = made(mosts, boxes, worker)
                before = whole(table)
                for place in range(fields):
                    for number in range(mosts[place] + 1):
                        told = fixed(table, place, number)
                        self.assertEqual(whole(told), whole(self.of_the_boxes(mosts, boxes, worker, place, number)))
                        self.assertNotIn(place, [field for field, _ in told.tests()])
                self.assertEqual(whole(table), before)

    def test_at_borders_of_great_fields(self):
        boxes = [(((5, HIGH - 1),), ((0, HIGH),)), (((0, 6), (HIGH, HIGH)), ((7, 7),)), (((5, 5),), ((0, 6), (8, HIGH)))]
        mosts = [HIGH, HIGH]
        table = made(mosts, boxes, tuple)
        for place in (0, 1):
            for number in (0, 1, 4, 5, 6, 7, 8, HIGH // 2, HIGH - 2, HIGH - 1, HIGH):
                told = fixed(table, place, number)
                self.assertEqual(whole(told), whole(self.of_the_boxes(mosts, boxes, tuple, place, number)))
                self.assertEqual(faults(told), [])

    def test_field_by_field_to_the_end(self):
        chance = random.Random(65)
        for _ in range(60):
            mosts = mosts_by_chance(chance, chance.randint(1, 4))
            table = made(mosts, boxes_by_chance(chance, mosts, 6), tuple)
            numbers = tuple(chance.randint(0, most) for most in mosts)
            told = table
            for place in chance.sample(range(len(mosts)), len(mosts)):
                told = fixed(told, place, numbers[place])
                self.assertEqual(faults(told), [])
            self.assertEqual((told.mosts(), told.top(), told.tests()), (mosts, ("leaf", table.leaf(numbers)), []))

    def test_a_field_without_a_test(self):
        table = made([5, 4, 3], [(((0, 5),), ((1, 2),), ((0, 3),))], len)
        for place, most in ((0, 5), (2, 3)):
            for number in (0, most):
                self.assertEqual(whole(fixed(table, place, number)), whole(table))
        once = fixed(table, 1, 2)
        self.assertEqual((once.top(), once.tests()), (("leaf", 1), []))
        self.assertEqual(whole(fixed(once, 1, 4)), whole(once))

    def test_in_any_order(self):
        table = made([9, 9], BOXES, tuple)
        for one, other in all_numbers([9, 9]):
            self.assertEqual(whole(fixed(fixed(table, 0, one), 1, other)), whole(fixed(fixed(table, 1, other), 0, one)))


class Leaves(unittest.TestCase):
    def come_to(self, table):
        found, tests = [], table.tests()

        def go(goal):
            if goal[0] == "test":
                for _, inner in tests[goal[1]][1]:
                    go(inner)
            elif repr(goal[1]) not in [repr(leaf) for leaf in found]:
                found.append(goal[1])

        go(table.top())
        return found

    def test_ordinary(self):
        table = made([9], [(((2, 4),),), (((4, 6),),)], tuple)
        self.assertEqual(leaves(table), [(), (0,), (0, 1), (1,)])
        self.assertEqual(leaves(made([9], [], lambda places: "a")), ["a"])
        self.assertEqual(leaves(made([9], [], lambda places: None)), [None])
        self.assertIs(type(leaves(table)), list)

    def test_what_is_behind_a_way_ahead_of_the_next_way(self):
        boxes = [(((0, 0),), ((1, 1),)), (((1, 1),), ((0, 1),)), (((2, 2),), ((0, 0),))]
        self.assertEqual(leaves(made([3, 1], boxes, tuple)), [(), (0,), (1,), (2,)])
        boxes = [(((0, 0),), ((0, 0),)), (((1, 1),), ((0, 1),)), (((2, 2),), ((0, 0),))]
        self.assertEqual(leaves(made([3, 1], boxes, tuple)), [(0,), (), (1,), (2,)])
        table = made([1, 1], [(((0, 0),), ((0, 0),)), (((0, 0),), ((1, 1),))], lambda places: places[0] if places else "z")
        self.assertEqual(leaves(table), [0, 1, "z"])

    def test_of_like_looks(self):
        told = [None, "None", 0, "0", (), "()", "", (0,), ((0,),), ("0",), (None,)]
        table = made([10], [(((number, number),),) for number in range(10)], lambda places: told[places[0]] if places else told[10])
        self.assertEqual(leaves(table), told)

    def test_by_chance(self):
        chance = random.Random(66)
        for fields in (1, 2, 3, 4):
            for _ in range(60):
                mosts = mosts_by_chance(chance, fields)
                table = made(mosts, boxes_by_chance(chance, mosts, chance.randint(0, 7)), chance.choice(WORKERS))
                self.assertEqual(repr(leaves(table)), repr(self.come_to(table)))

    def test_list_is_the_askers_own(self):
        table = made([9, 9], BOXES, tuple)
        before, told = whole(table), leaves(table)
        leaves(table).clear()
        other = leaves(table)
        other.reverse()
        other[0] = "x"
        self.assertEqual((leaves(table), whole(table)), (told, before))


class FirstAndMany(unittest.TestCase):
    def looked(self, table, worker):
        """Both by a plain look at every tuple of numbers."""
        good = [numbers for numbers in all_numbers(table.mosts()) if worker(table.leaf(numbers)) is True]
        return (good[0] if good else None, len(good))

    def told(self, table, worker):
        return (first_with(table, worker), many_with(table, worker))

    def test_ordinary(self):
        table = made([5, 9], [(((2, 3),), ((4, 6),)), (((3, 3),), ((2, 4),))], tuple)
        self.assertEqual(self.told(table, lambda leaf: leaf == (0,)), ((2, 4), 5))
        self.assertEqual(self.told(table, lambda leaf: leaf == (1,)), ((3, 2), 2))
        self.assertEqual(self.told(table, lambda leaf: leaf == (0, 1)), ((3, 4), 1))
        self.assertEqual(self.told(table, lambda leaf: leaf == ()), ((0, 0), 52))
        self.assertEqual(self.told(table, lambda leaf: 1 in leaf), ((3, 2), 3))
        self.assertEqual(self.told(table, lambda leaf: leaf == "zed"), (None, 0))
        self.assertIs(type(first_with(table, lambda leaf: True)), tuple)
        self.assertIs(type(many_with(table, lambda leaf: True)), int)

    def test_each_leaf_and_none(self):
        chance = random.Random(67)
        for fields in (1, 2, 3, 4):
            for _ in range(40):
                mosts = mosts_by_chance(chance, fields)
                table = made(mosts, boxes_by_chance(chance, mosts, chance.randint(0, 7)), chance.choice(WORKERS))
                before, together = whole(table), 0
                for leaf in leaves(table) + ["zed", 10 ** 9, (7, 7, 7)]:
                    def worker(told):
                        return repr(told) == repr(leaf)

                    self.assertEqual(self.told(table, worker), self.looked(table, worker))
                    together += many_with(table, worker)
                self.assertEqual(together, math.prod(most + 1 for most in mosts))
                some = {repr(leaf) for leaf in leaves(table) if chance.random() < 0.5}
                for worker in (lambda told: repr(told) in some, lambda told: repr(told) not in some):
                    self.assertEqual(self.told(table, worker), self.looked(table, worker))
                self.assertEqual(whole(table), before)

    def test_a_field_that_does_not_matter(self):
        table = made([5, 4, 3, 1], [(((0, 5),), ((1, 2),), ((0, 3),), ((1, 1),))], len)
        self.assertEqual(self.told(table, lambda leaf: leaf == 1), ((0, 1, 0, 1), 6 * 2 * 4))
        self.assertEqual(self.told(table, lambda leaf: leaf == 0), ((0, 0, 0, 0), 6 * 5 * 4 * 2 - 6 * 2 * 4))

    def test_only_true_is_true(self):
        table = made([5, 9], [(((2, 3),), ((4, 6),))], len)
        for thing in [1, 2, -1, "True", "x", "", 0, (), (True,), [True], Thorny()] + odd_things():
            if thing is True:
                continue
            self.assertEqual(self.told(table, lambda leaf: thing), (None, 0))
            self.assertEqual(self.told(table, lambda leaf: True if leaf else thing), ((2, 4), 6))
        self.assertEqual(self.told(table, lambda leaf: leaf), (None, 0))
        self.assertEqual(self.told(table, lambda leaf: True), ((0, 0), 60))

    def test_leaves_that_are_truths_of_a_sort(self):
        # A table whose own leaves are 1 and 0 is told by what the worker says of them, not by themselves.
        table = made([9], [(((3, 5),),)], len)
        self.assertEqual(self.told(table, lambda leaf: leaf == 1), ((3,), 3))
        self.assertEqual(self.told(table, lambda leaf: leaf == 0), ((0,), 7))

    def test_one_leaf_alone(self):
        table = made([4, HIGH], [], lambda places: "a")
        self.assertEqual(self.told(table, lambda leaf: leaf == "a"), ((0, 0), 5 * (HIGH + 1)))
        self.assertEqual(self.told(table, lambda leaf: leaf == "b"), (None, 0))
        self.assertEqual(self.told(made([0], [], len), lambda leaf: True), ((0,), 1))

    def test_great_mosts(self):
        mosts = [HIGH, HIGH, HIGH, HIGH]
        boxes = [(((5, HIGH),), ((0, HIGH),), ((HIGH, HIGH),), ((1, HIGH - 1),)),
                 (((HIGH, HIGH),), ((7, HIGH),), ((0, HIGH - 1),), ((0, HIGH),))]
        table = made(mosts, boxes, tuple)
        first, second = (HIGH - 4) * (HIGH + 1) * (HIGH - 1), (HIGH - 6) * HIGH * (HIGH + 1)
        self.assertEqual(self.told(table, lambda leaf: leaf == (0,)), ((5, 0, HIGH, 1), first))
        self.assertEqual(self.told(table, lambda leaf: leaf == (1,)), ((HIGH, 7, 0, 0), second))
        self.assertEqual(self.told(table, lambda leaf: leaf == (0, 1)), (None, 0))
        self.assertEqual(self.told(table, lambda leaf: leaf == ()), ((0, 0, 0, 0), (HIGH + 1) ** 4 - first - second))
        self.assertEqual(self.told(table, lambda leaf: leaf != ()), ((5, 0, HIGH, 1), first + second))

    def test_the_least_one_is_least_by_the_first_field(self):
        table = made([9, 9], [(((8, 8),), ((0, 9),)), (((3, 3),), ((9, 9),)), (((0, 9),), ((9, 9),))], len)
        self.assertEqual(first_with(table, lambda leaf: leaf == 1), (0, 9))
        self.assertEqual(first_with(table, lambda leaf: leaf == 2), (3, 9))
        self.assertEqual(many_with(table, lambda leaf: leaf == 2), 2)


class Files(unittest.TestCase):
    def test_defined_in_this_file(self):
        for one in (combined, changed, fixed, leaves, first_with, many_with):
            self.assertEqual(one.__module__, tablework.__name__)
