import itertools
import random
import unittest

from gatewright import tables
from gatewright.sets import set_of
from gatewright.tables import Table, made
from tests.tablelooks import WORKERS, alive, all_numbers, boxes_by_chance, faults, least_told

HIGH = 10 ** 12


class Made(unittest.TestCase):
    def looked_through(self, mosts, boxes, worker):
        table = made(list(mosts), list(boxes), worker)
        self.assertIsInstance(table, Table)
        self.assertEqual(table.mosts(), list(mosts))
        top, tests = least_told(mosts, lambda numbers: worker(alive(boxes, numbers)))
        self.assertEqual((repr(table.top()), repr(table.tests())), (repr(top), repr(tests)))
        for numbers in all_numbers(mosts):
            self.assertEqual(repr(table.leaf(numbers)), repr(worker(alive(boxes, numbers))))

    def test_of_no_boxes(self):
        for mosts in ([0], [5], [3, 0, 2], [1, 2, 1, 2], [HIGH]):
            table = made(mosts, [], lambda places: ("none", tuple(places)))
            self.assertEqual(table.top(), ("leaf", ("none", ())))
            self.assertEqual(table.tests(), [])
            self.assertEqual(table.leaf((0,) * len(mosts)), ("none", ()))

    def test_one_box(self):
        table = made([9], [(((2, 4),),)], lambda places: "in" if places == [0] else None)
        self.assertEqual(table.top(), ("test", 0))
        self.assertEqual(table.tests(), [(0, ((1, ("leaf", None)), (4, ("leaf", "in")), (9, ("leaf", None))))])
        self.assertEqual([table.leaf((number,)) for number in (0, 1, 2, 4, 5, 9)], [None, None, "in", "in", None, None])

    def test_two_fields(self):
        boxes = [(((0, 1),), ((0, 9),)), (((0, 3),), ((5, 5),))]
        table = made([5, 9], boxes, lambda places: len(places))
        self.assertEqual(table.top(), ("test", 0))
        self.assertEqual(table.tests(), [
            (0, ((1, ("test", 1)), (3, ("test", 2)), (5, ("leaf", 0)))),
            (1, ((4, ("leaf", 1)), (5, ("leaf", 2)), (9, ("leaf", 1)))),
            (1, ((4, ("leaf", 0)), (5, ("leaf", 1)), (9, ("leaf", 0))))])

    def test_no_two_tests_alike(self):
        boxes = [(((1, 1), (4, 4)), ((2, 3),)), (((1, 1),), ((0, 9),))]
        table = made([5, 9], boxes, lambda places: "in" if 0 in places else "out")
        self.assertEqual(len(table.tests()), 2)
        out = ("leaf", "out")
        self.assertEqual([goal for _, goal in table.tests()[0][1]], [out, ("test", 1), out, ("test", 1), out])

    def test_numbered_as_come_to(self):
        # The test behind the first way, and what is behind it, come ahead of those of the second way.
        boxes = [(((0, 0),), ((0, 0),), ((0, 0),)), (((1, 1),), ((1, 1),), ((1, 1),)), (((0, 0),), ((1, 1),), ((1, 1),))]
        table = made([2, 1, 1], boxes, tuple)
        self.assertEqual([field for field, _ in table.tests()], [0, 1, 2, 2, 1, 2])
        self.assertEqual(table.tests()[0][1], ((0, ("test", 1)), (1, ("test", 4)), (2, ("leaf", ()))))
        self.assertEqual(table.tests()[1][1], ((0, ("test", 2)), (1, ("test", 3))))
        self.assertEqual(table.tests()[4][1], ((0, ("leaf", ())), (1, ("test", 5))))

    def test_fields_that_do_not_matter_have_no_tests(self):
        boxes = [(((0, 5),), ((1, 2),), ((0, 3),), ((0, 0),))]
        table = made([5, 4, 3, 1], boxes, len)
        self.assertEqual([field for field, _ in table.tests()], [1, 3])
        self.assertEqual(table.tests()[0][1], ((0, ("leaf", 0)), (2, ("test", 1)), (4, ("leaf", 0))))

    def test_one_leaf_alone_is_the_top(self):
        boxes = [(((0, 3),), ((1, 2),)), (((2, 5),), ((0, 9),))]
        for leaf in (None, "", "a", 0, 7, (), ("a", (None, 0))):
            table = made([5, 9], boxes, lambda places: leaf)
            self.assertEqual(table.top(), ("leaf", leaf))
            self.assertEqual(table.tests(), [])
            self.assertEqual(table.leaf((3, 1)), leaf)

    def test_boxes_that_give_the_same_leaf(self):
        boxes = [(((0, 3),),), (((4, 6),),), (((8, 8),),)]
        table = made([9], boxes, lambda places: "in" if places else "out")
        self.assertEqual(table.tests(), [(0, ((6, ("leaf", "in")), (7, ("leaf", "out")), (8, ("leaf", "in")),
                                              (9, ("leaf", "out"))))])

    def test_boxes_without_any_numbers(self):
        boxes = [((), ((0, 9),)), (((0, 5),), ()), ((), ())]
        table = made([5, 9], boxes, tuple)
        self.assertEqual((table.top(), table.tests()), (("leaf", ()), []))

    def test_whole_boxes(self):
        boxes = [(((0, 5),), ((0, 9),))] * 10
        table = made([5, 9], boxes, tuple)
        self.assertEqual((table.top(), table.tests()), (("leaf", tuple(range(10))), []))

    def test_leaves_of_like_looks_are_unlike(self):
        told = [None, "None", 0, "0", (), "()", "", (0,), ((0,),), ("0",), (None,), (0, None)]
        boxes = [(((number, number),),) for number in range(10)]
        for shift in (0, 2):
            leaves = told[shift:]
            table = made([9], boxes, lambda places: leaves[places[0]])
            self.assertEqual([goal for _, goal in table.tests()[0][1]], [("leaf", leaf) for leaf in leaves[:10]])

    def test_deep_leaves(self):
        deep = ()
        for number in range(50):
            deep = (number, deep)
        other = ()
        for number in range(50):
            other = (number or 1, other)
        table = made([2], [(((1, 1),),)], lambda places: deep if places else other)
        self.assertEqual(table.tests(), [(0, ((0, ("leaf", other)), (1, ("leaf", deep)), (2, ("leaf", other))))])

    def test_each_set_of_a_small_field(self):
        sets = [set_of(3, [(number, number) for number in range(4) if bits >> number & 1]) for bits in range(16)]
        for one, other in itertools.product(sets, sets):
            for worker in WORKERS:
                self.looked_through([3], [(one,), (other,)], worker)

    def test_by_chance(self):
        chance = random.Random(51)
        for many in range(11):
            for fields in (1, 2, 3, 4):
                for _ in range(4):
                    mosts = [chance.randint(0, (20, 7, 5, 3)[fields - 1]) for _ in range(fields)]
                    boxes = boxes_by_chance(chance, mosts, many)
                    for worker in chance.sample(WORKERS, 3):
                        self.looked_through(mosts, boxes, worker)

    def test_great_mosts(self):
        boxes = [(((0, 0), (HIGH, HIGH)), ((5, HIGH - 1),)), (((1, HIGH - 1),), ((0, HIGH),)), (((7, 7),), ((HIGH, HIGH),))]
        table = made([HIGH, HIGH], boxes, tuple)
        self.assertEqual(table.mosts(), [HIGH, HIGH])
        self.assertEqual(table.tests(), [
            (0, ((0, ("test", 1)), (6, ("leaf", (1,))), (7, ("test", 2)), (HIGH - 1, ("leaf", (1,))), (HIGH, ("test", 1)))),
            (1, ((4, ("leaf", ())), (HIGH - 1, ("leaf", (0,))), (HIGH, ("leaf", ())))),
            (1, ((HIGH - 1, ("leaf", (1,))), (HIGH, ("leaf", (1, 2)))))])
        ends = (0, 1, 4, 5, 6, 7, 8, HIGH // 2, HIGH - 1, HIGH)
        for numbers in itertools.product(ends, ends):
            self.assertEqual(table.leaf(numbers), tuple(alive(boxes, numbers)))

    def test_many_stretches(self):
        chance = random.Random(52)
        for mosts in ([HIGH], [HIGH, 1439], [2 ** 32 - 1, HIGH, 31]):
            boxes = []
            for _ in range(10):
                box = []
                for most in mosts:
                    ends = sorted(chance.sample(range(most + 1), min(120, most // 4 * 2)))
                    box.append(set_of(most, list(zip(ends[::2], ends[1::2]))))
                boxes.append(tuple(box))
            table = made(mosts, boxes, tuple)
            for _ in range(300):
                numbers = tuple(chance.choice((chance.randint(0, most), *chance.choice(chance.choice(boxes)[at])))
                                for at, most in enumerate(mosts))
                numbers = tuple(min(most, number + chance.choice((0, 0, 1))) for number, most in zip(numbers, mosts))
                self.assertEqual(table.leaf(numbers), tuple(alive(boxes, numbers)))
            self.assertEqual(faults(table), [])


class Workers(unittest.TestCase):
    boxes = [(((0, 4),), ((0, 2),)), (((3, 9),), ((1, 5),)), (((4, 4),), ((0, 9),))]

    def test_is_handed_rising_lists_of_its_own(self):
        handed = []

        def worker(places):
            self.assertIs(type(places), list)
            self.assertEqual(places, sorted(set(places)))
            self.assertEqual([type(place) for place in places], [int] * len(places))
            told = tuple(places)
            handed.append(places)
            places.append("x")
            places.reverse()
            return told

        table = made([9, 9], self.boxes, worker)
        self.assertEqual(len({id(one) for one in handed}), len(handed))
        for one in handed:
            one.clear()
        for numbers in all_numbers([9, 9]):
            self.assertEqual(table.leaf(numbers), tuple(alive(self.boxes, numbers)))

    def test_is_asked_of_what_can_be_alive(self):
        seen = set()

        def worker(places):
            seen.add(tuple(places))
            return len(places)

        made([9, 9], self.boxes, worker)
        self.assertEqual(seen, {tuple(alive(self.boxes, numbers)) for numbers in all_numbers([9, 9])})

    def test_may_make_a_table_itself(self):
        def worker(places):
            return made([9], [(((0, 4),),)], len).leaf((len(places),))

        self.assertEqual(made([9, 9], self.boxes, worker).leaf((0, 9)), 1)

    def test_a_failing_worker(self):
        def worker(places):
            raise KeyError("of its own")

        with self.assertRaises(KeyError):
            made([9, 9], self.boxes, worker)


class TheAskersOwn(unittest.TestCase):
    def test_told_lists(self):
        table = made([9, 9], Workers.boxes, tuple)
        mosts, top, tests = table.mosts(), table.top(), table.tests()
        leaves = [table.leaf(numbers) for numbers in all_numbers([9, 9])]
        for told in (table.mosts(), table.tests()):
            self.assertIs(type(told), list)
            told.reverse()
            told[0] = None
            told.clear()
        self.assertEqual((table.mosts(), table.top(), table.tests()), (mosts, top, tests))
        self.assertEqual([table.leaf(numbers) for numbers in all_numbers([9, 9])], leaves)

    def test_told_tuples(self):
        table = made([9, 9], Workers.boxes, tuple)
        self.assertIs(type(table.top()), tuple)
        for test in table.tests():
            self.assertEqual([type(one) for one in test], [int, tuple])
            for way in test[1]:
                self.assertEqual([type(one) for one in way], [int, tuple])

    def test_handed_in_lists(self):
        mosts, boxes = [9, 9], list(Workers.boxes)
        table = made(mosts, boxes, tuple)
        self.assertEqual((mosts, boxes), ([9, 9], Workers.boxes))
        tests = table.tests()
        mosts.clear()
        boxes.clear()
        self.assertEqual((table.mosts(), table.tests()), ([9, 9], tests))
        self.assertEqual(table.leaf((4, 1)), (0, 1, 2))

    def test_lists_that_a_worker_empties(self):
        mosts, boxes = [9, 9], list(Workers.boxes)

        def worker(places):
            mosts.clear()
            boxes.clear()
            return tuple(places)

        table = made(mosts, boxes, worker)
        self.assertEqual((table.mosts(), table.tests()), ([9, 9], made([9, 9], Workers.boxes, tuple).tests()))


class Methods(unittest.TestCase):
    def test_stand_in_the_class(self):
        for method in ("mosts", "top", "tests", "leaf"):
            self.assertIn(method, vars(Table))

    def test_defined_in_this_file(self):
        for one in (Table, made):
            self.assertEqual(one.__module__, tables.__name__)
