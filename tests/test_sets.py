import copy
import random
import unittest

from gatewright.errors import BadSet, GateError
from gatewright.sets import (
    cut, has, joined, least, less, need_set, parts, set_of, size, turned)
from tests.odd import Thorny, odd_lists, odd_numbers, odd_things

HIGH = 10 ** 12


def all_in(most, one):
    """The numbers in a set, looked at one by one."""
    return [number for number in range(most + 1) if any(low <= number <= high for low, high in one)]


def as_set(numbers):
    """The set of some numbers, put together one by one."""
    found = []
    for number in sorted(numbers):
        if found and found[-1][1] == number - 1:
            found[-1] = (found[-1][0], number)
        else:
            found.append((number, number))
    return tuple(found)


def all_sets(most):
    """Each set of the numbers from 0 to most."""
    return [as_set([number for number in range(most + 1) if bits >> number & 1])
            for bits in range(2 ** (most + 1))]


def wide_set(chance, most, many):
    """A set of so many stretches, far apart or near, at 0 and at the most now and then."""
    borders = set()
    if chance.random() < 0.5:
        borders.update((0, most))
    while len(borders) < 2 * many:
        at = chance.randint(0, most)
        borders.update((at, min(most, at + chance.choice((0, 2, 3, 1000)))))
    rising = sorted(borders)[:2 * many]
    found = []
    for low, high in zip(rising[::2], rising[1::2]):
        if not found or found[-1][1] + 1 < low:
            found.append((low, high))
    return tuple(found)


def beside(most, *some):
    """All numbers at the borders of some sets and next to them."""
    near = {0, 1, most - 1, most}
    for one in some:
        for low, high in one:
            near.update((low - 1, low, low + 1, high - 1, high, high + 1))
    return sorted(number for number in near if 0 <= number <= most)


def in_it(one, number):
    return any(low <= number <= high for low, high in one)


class NeedSet(unittest.TestCase):
    def refused(self, most, thing):
        with self.assertRaises(BadSet) as caught:
            need_set(most, thing)
        self.assertIs(type(caught.exception), BadSet)

    def test_good_sets(self):
        good = [
            (0, ()), (0, ((0, 0),)), (9, ()), (9, ((0, 9),)), (9, ((0, 0),)), (9, ((9, 9),)),
            (9, ((0, 0), (2, 2), (4, 9))), (9, ((0, 7), (9, 9))),
            (HIGH, ()), (HIGH, ((0, HIGH),)), (HIGH, ((HIGH, HIGH),)), (HIGH, ((0, HIGH - 2), (HIGH, HIGH))),
            (HIGH, tuple((10 * at, 10 * at + 8) for at in range(100))),
        ]
        for most, thing in good:
            with self.subTest(most=most, thing=thing):
                self.assertIsNone(need_set(most, thing))

    def test_each_small_set_and_no_other_pairs(self):
        pairs = [(low, high) for low in range(-1, 5) for high in range(-1, 5)]
        good = all_sets(3)
        some = [()] + [(one,) for one in pairs] + [(one, other) for one in pairs for other in pairs]
        for thing in some:
            with self.subTest(thing=thing):
                if thing in good:
                    self.assertIsNone(need_set(3, thing))
                else:
                    self.refused(3, thing)

    def test_wrong_order(self):
        self.refused(9, ((4, 5), (0, 1)))
        self.refused(9, ((5, 4),))
        self.refused(9, ((0, 1), (5, 4)))
        self.refused(9, ((0, 1), (8, 9), (4, 5)))
        self.refused(HIGH, ((HIGH, HIGH), (0, 0)))

    def test_in_one_another(self):
        self.refused(9, ((0, 5), (2, 3)))
        self.refused(9, ((2, 3), (0, 5)))
        self.refused(9, ((0, 5), (5, 6)))
        self.refused(9, ((0, 5), (4, 6)))
        self.refused(9, ((0, 5), (0, 5)))

    def test_side_by_side(self):
        self.refused(9, ((0, 1), (2, 3)))
        self.refused(9, ((0, 0), (1, 1)))
        self.refused(9, ((0, 0), (4, 5), (6, 6)))
        self.refused(HIGH, ((0, HIGH - 1), (HIGH, HIGH)))

    def test_out_of_the_limits(self):
        self.refused(9, ((-1, 3),))
        self.refused(9, ((-3, -1),))
        self.refused(9, ((0, 10),))
        self.refused(9, ((10, 10),))
        self.refused(0, ((0, 1),))
        self.refused(0, ((1, 1),))
        self.refused(HIGH, ((0, HIGH + 1),))
        for number in odd_numbers():
            self.refused(HIGH, ((number, number),))
            self.refused(HIGH, ((0, number),))
            self.refused(HIGH, ((number, 5),))

    def test_no_pairs(self):
        for stretch in [(), (1,), (1, 2, 3), (1, 2, 3, 4), ((1, 2),), ((1, 2), (4, 5))]:
            self.refused(9, (stretch,))
            self.refused(9, ((0, 0), stretch))
        self.refused(9, (0, 1))
        self.refused(9, (3,))

    def test_stretches_that_are_no_tuples(self):
        for stretch in odd_things() + odd_lists() + ["", "ab", "01", 0, 1, [4, 5]]:
            self.refused(9, (stretch,))
            self.refused(9, ((0, 0), stretch))
            self.refused(9, (stretch, (8, 9)))

    def test_no_tuples(self):
        for thing in odd_things() + odd_lists() + odd_numbers() + ["", "ab", 0, 1]:
            self.refused(9, thing)
        self.refused(9, [(0, 1)])
        self.refused(9, [(0, 1), (4, 5)])
        self.refused(9, [])

    def test_no_numbers(self):
        for number in odd_things() + odd_lists() + ["", "1", "a", (), (1,)]:
            self.refused(9, ((number, 5),))
            self.refused(9, ((0, number),))
            self.refused(9, ((number, number),))

    def test_true_and_false_are_no_numbers(self):
        self.refused(9, ((False, 1),))
        self.refused(9, ((0, True),))
        self.refused(9, ((True, True),))
        self.refused(9, ((False, False),))
        self.refused(1, ((True, 1),))
        self.refused(9, ((0, 0), (True, 5)))

    def test_a_late_fault(self):
        good = tuple((10 * at, 10 * at + 8) for at in range(99))
        self.refused(HIGH, good + ((988, 990),))
        self.refused(HIGH, good + ((989, 990),))
        self.assertIsNone(need_set(HIGH, good + ((990, 990),)))


class SetOf(unittest.TestCase):
    def refused(self, most, pairs):
        with self.assertRaises(BadSet) as caught:
            set_of(most, pairs)
        self.assertIs(type(caught.exception), BadSet)

    def test_ordinary(self):
        self.assertEqual(set_of(9, []), ())
        self.assertEqual(set_of(9, [(3, 4)]), ((3, 4),))
        self.assertEqual(set_of(9, [(0, 9)]), ((0, 9),))
        self.assertEqual(set_of(9, [(7, 9), (0, 2)]), ((0, 2), (7, 9)))
        self.assertEqual(set_of(0, [(0, 0), (0, 0)]), ((0, 0),))

    def test_that_meet(self):
        self.assertEqual(set_of(9, [(0, 2), (3, 5)]), ((0, 5),))
        self.assertEqual(set_of(9, [(3, 5), (0, 2)]), ((0, 5),))
        self.assertEqual(set_of(9, [(0, 2), (2, 5)]), ((0, 5),))
        self.assertEqual(set_of(9, [(0, 2), (4, 5)]), ((0, 2), (4, 5)))
        self.assertEqual(set_of(9, [(4, 5), (0, 2), (3, 3)]), ((0, 5),))

    def test_that_lie_in_one_another(self):
        self.assertEqual(set_of(9, [(0, 8), (2, 3)]), ((0, 8),))
        self.assertEqual(set_of(9, [(2, 3), (0, 8)]), ((0, 8),))
        self.assertEqual(set_of(9, [(0, 8), (2, 3), (5, 9)]), ((0, 9),))
        self.assertEqual(set_of(9, [(1, 6), (1, 2), (1, 6), (8, 8)]), ((1, 6), (8, 8)))

    def test_all_lists_of_three_small_ones(self):
        pairs = [(low, high) for low in range(5) for high in range(low, 5)]
        for one in pairs:
            for other in pairs:
                for third in pairs:
                    told = set_of(4, [one, other, third])
                    self.assertEqual(told, as_set(all_in(4, (one, other, third))))

    def test_many_stretches(self):
        chance = random.Random(5)
        for many in (10, 50, 100):
            for _ in range(20):
                pairs = []
                for _ in range(many):
                    low = chance.randint(0, HIGH)
                    pairs.append((low, min(HIGH, low + chance.choice((0, 1, HIGH // 200, HIGH // 20)))))
                told = set_of(HIGH, pairs)
                self.assertIsNone(need_set(HIGH, told))
                for number in beside(HIGH, pairs):
                    self.assertEqual(in_it(told, number), in_it(pairs, number))

    def test_list_is_unchanged(self):
        pairs = [(7, 9), (0, 2), (1, 3), (7, 9)]
        before = copy.deepcopy(pairs)
        set_of(9, pairs)
        self.assertEqual(pairs, before)

    def test_list_is_free_to_be_changed(self):
        pairs = [(7, 9), (0, 2)]
        told = set_of(9, pairs)
        pairs.append((4, 5))
        pairs[0] = (8, 8)
        self.assertEqual(told, ((0, 2), (7, 9)))
        self.assertIs(type(told), tuple)
        self.assertEqual([type(stretch) for stretch in told], [tuple, tuple])

    def test_no_list(self):
        for thing in odd_things() + odd_numbers() + ["", "ab", 0, 1, (), ((0, 1),), (0, 1)]:
            self.refused(9, thing)

    def test_no_tuples_in_it(self):
        for stretch in odd_things() + odd_lists() + ["", "ab", "01", 0, 1, [0, 1]]:
            self.refused(9, [stretch])
            self.refused(9, [(0, 1), stretch])
            self.refused(9, [stretch, (0, 1)])

    def test_no_pairs(self):
        for stretch in [(), (1,), (1, 2, 3), ((0, 1), (2, 3))]:
            self.refused(9, [stretch])
            self.refused(9, [(0, 9), stretch])

    def test_no_numbers(self):
        for number in odd_things() + odd_lists() + ["", "1", ()]:
            self.refused(9, [(number, 5)])
            self.refused(9, [(0, number)])
        self.refused(9, [(0, True)])
        self.refused(9, [(False, 5)])
        self.refused(9, [(True, True)])

    def test_out_of_the_limits(self):
        self.refused(9, [(0, 10)])
        self.refused(9, [(-1, 0)])
        self.refused(9, [(10, 10)])
        self.refused(9, [(5, 4)])
        self.refused(9, [(0, 9), (3, 2)])
        self.refused(HIGH, [(0, HIGH + 1)])
        for number in odd_numbers():
            self.refused(HIGH, [(number, number)])
            self.refused(HIGH, [(0, number)])
            self.refused(HIGH, [(number, 5)])

    def test_a_refused_list_is_unchanged(self):
        pairs = [(7, 9), (0, 2), (5, 4)]
        self.refused(9, pairs)
        self.assertEqual(pairs, [(7, 9), (0, 2), (5, 4)])


class Reckoned(unittest.TestCase):
    def test_each_two_small_sets(self):
        for most in (0, 1, 2, 3, 4):
            some = all_sets(most)
            for one in some:
                here = set(all_in(most, one))
                self.assertEqual(turned(most, one), as_set(set(range(most + 1)) - here))
                for other in some:
                    there = set(all_in(most, other))
                    self.assertEqual(joined(one, other), as_set(here | there))
                    self.assertEqual(cut(one, other), as_set(here & there))
                    self.assertEqual(less(one, other), as_set(here - there))

    def test_some_sets_to_forty(self):
        chance = random.Random(6)
        for _ in range(300):
            most = chance.randint(5, 40)
            here = {number for number in range(most + 1) if chance.random() < 0.6}
            there = {number for number in range(most + 1) if chance.random() < 0.3}
            one, other = as_set(here), as_set(there)
            self.assertEqual(joined(one, other), as_set(here | there))
            self.assertEqual(cut(one, other), as_set(here & there))
            self.assertEqual(less(one, other), as_set(here - there))
            self.assertEqual(less(other, one), as_set(there - here))
            self.assertEqual(turned(most, one), as_set(set(range(most + 1)) - here))

    def test_wide_sets(self):
        chance = random.Random(7)
        for many in (1, 2, 10, 100):
            for _ in range(30):
                one = wide_set(chance, HIGH, many)
                other = wide_set(chance, HIGH, chance.choice((1, many)))
                both, part, rest, out = joined(one, other), cut(one, other), less(one, other), turned(HIGH, one)
                for told in (both, part, rest, out):
                    self.assertIsNone(need_set(HIGH, told))
                for number in beside(HIGH, one, other):
                    here, there = in_it(one, number), in_it(other, number)
                    self.assertEqual(in_it(both, number), here or there)
                    self.assertEqual(in_it(part, number), here and there)
                    self.assertEqual(in_it(rest, number), here and not there)
                    self.assertEqual(in_it(out, number), not here)

    def test_of_none_and_of_all(self):
        one = ((3, 4), (8, HIGH - 5))
        whole = ((0, HIGH),)
        self.assertEqual(joined((), ()), ())
        self.assertEqual(joined(one, ()), one)
        self.assertEqual(joined((), one), one)
        self.assertEqual(joined(one, whole), whole)
        self.assertEqual(cut(one, ()), ())
        self.assertEqual(cut((), one), ())
        self.assertEqual(cut(one, whole), one)
        self.assertEqual(less(one, ()), one)
        self.assertEqual(less((), one), ())
        self.assertEqual(less(one, one), ())
        self.assertEqual(less(one, whole), ())
        self.assertEqual(less(whole, one), ((0, 2), (5, 7), (HIGH - 4, HIGH)))
        self.assertEqual(turned(HIGH, ()), whole)
        self.assertEqual(turned(HIGH, whole), ())
        self.assertEqual(turned(0, ()), ((0, 0),))
        self.assertEqual(turned(0, ((0, 0),)), ())

    def test_told_as_tuples_of_tuples(self):
        one, other = ((0, 3), (6, 7)), ((2, 6),)
        for told in (joined(one, other), cut(one, other), less(one, other), turned(9, one)):
            self.assertIs(type(told), tuple)
            for stretch in told:
                self.assertIs(type(stretch), tuple)


class Asked(unittest.TestCase):
    def test_has_of_small_sets(self):
        for one in all_sets(5):
            numbers = all_in(5, one)
            for number in range(6):
                self.assertIs(has(one, number), number in numbers)

    def test_has_at_the_borders(self):
        one = ((0, 0), (5, 9), (11, 11), (HIGH - 1, HIGH))
        for number in (0, 5, 6, 8, 9, 11, HIGH - 1, HIGH):
            self.assertIs(has(one, number), True)
        for number in (1, 4, 10, 12, HIGH - 2):
            self.assertIs(has(one, number), False)
        self.assertIs(has(((3, 4),), 0), False)
        self.assertIs(has(((3, 4),), HIGH), False)
        self.assertIs(has((), 0), False)

    def test_has_of_wide_sets(self):
        chance = random.Random(8)
        for many in (1, 3, 50, 99, 100):
            one = wide_set(chance, HIGH, many)
            for number in beside(HIGH, one):
                self.assertIs(has(one, number), in_it(one, number))

    def test_size(self):
        self.assertEqual(size(()), 0)
        self.assertEqual(size(((0, 0),)), 1)
        self.assertEqual(size(((0, HIGH),)), HIGH + 1)
        self.assertEqual(size(((0, 2), (4, 4), (9, 12))), 8)
        for one in all_sets(5):
            self.assertEqual(size(one), len(all_in(5, one)))

    def test_least(self):
        self.assertIsNone(least(()))
        self.assertEqual(least(((0, 0),)), 0)
        self.assertEqual(least(((0, 3), (5, 6))), 0)
        self.assertEqual(least(((7, 8), (10, HIGH))), 7)
        self.assertEqual(least(((HIGH, HIGH),)), HIGH)
        for one in all_sets(5)[1:]:
            self.assertEqual(least(one), min(all_in(5, one)))


class Parts(unittest.TestCase):
    def looked(self, most, some):
        """The parts by a look at each number: runs of numbers that are in the same sets."""
        found = []
        last = None
        for number in range(most + 1):
            seen = [in_it(one, number) for one in some]
            if seen == last:
                found[-1] = (found[-1][0], number)
            else:
                found.append((number, number))
            last = seen
        return found

    def test_of_none(self):
        self.assertEqual(parts(9, []), [(0, 9)])
        self.assertEqual(parts(0, []), [(0, 0)])
        self.assertEqual(parts(HIGH, []), [(0, HIGH)])

    def test_of_one(self):
        self.assertEqual(parts(9, [()]), [(0, 9)])
        self.assertEqual(parts(9, [((0, 9),)]), [(0, 9)])
        self.assertEqual(parts(9, [((3, 5),)]), [(0, 2), (3, 5), (6, 9)])
        self.assertEqual(parts(9, [((0, 5), (9, 9))]), [(0, 5), (6, 8), (9, 9)])
        for one in all_sets(5):
            self.assertEqual(parts(5, [one]), self.looked(5, [one]))

    def test_of_two(self):
        for one in all_sets(4):
            for other in all_sets(4):
                self.assertEqual(parts(4, [one, other]), self.looked(4, [one, other]))

    def test_of_twenty(self):
        chance = random.Random(9)
        for share in (0.02, 0.1, 0.5, 0.98):
            some = [as_set([number for number in range(61) if chance.random() < share]) for _ in range(20)]
            self.assertEqual(parts(60, some), self.looked(60, some))

    def test_of_twenty_wide_ones(self):
        chance = random.Random(10)
        some = [wide_set(chance, HIGH, 100) for _ in range(20)]
        told = parts(HIGH, some)
        self.assertEqual((told[0][0], told[-1][1]), (0, HIGH))
        borders = {0}
        for one in some:
            borders.update(low for low, high in one)
            borders.update(high + 1 for low, high in one if high < HIGH)
        self.assertEqual([low for low, high in told], sorted(borders))
        for (low, high), (behind, _) in zip(told, told[1:]):
            self.assertEqual(high + 1, behind)

    def test_alike_sets(self):
        self.assertEqual(parts(9, [((3, 5),), ((3, 5),), ()]), [(0, 2), (3, 5), (6, 9)])

    def test_told_is_the_askers_own(self):
        some = [((3, 5),), ((0, 4),)]
        told = parts(9, some)
        self.assertIs(type(told), list)
        self.assertEqual([type(part) for part in told], [tuple] * len(told))
        self.assertEqual(some, [((3, 5),), ((0, 4),)])
        told.append((10, 11))
        told[0] = None
        some.clear()
        self.assertEqual(parts(9, [((3, 5),), ((0, 4),)]), [(0, 2), (3, 4), (5, 5), (6, 9)])


class Refusals(unittest.TestCase):
    def test_are_gate_errors(self):
        with self.assertRaises(GateError):
            need_set(3, None)
        with self.assertRaises(ValueError):
            set_of(3, Thorny())
