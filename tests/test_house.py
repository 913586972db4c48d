import itertools
import random
import unittest

from gatewright import house as house_file
from gatewright.errors import BadAsking, GateError, NoGate
from gatewright.fields import Field
from gatewright.folk import Folk
from gatewright.house import House, house_of
from gatewright.sets import need_set
from tests.chances import KINDS, condition_by_chance, field_by_chance, groups_by_chance, house_by_chance
from tests.looks import set_by_look
from tests.odd import Thorny, odd_lists, odd_numbers, odd_things

HIGH = 10 ** 12
FIELDS = (("who", "names", ("ann", "bob", "cy")), ("where", "tree", ("a", "a/b", "c")), ("many", "number", HIGH),
          ("at", "clock", None))
GROUPS = (("who", "crew", ("cy", "ann")), ("who", "top", ("crew",)))
DOOR = ("door", "first", (("let", None, (("who", False, (("name", "crew"),)),)), ("refuse", None, ())))
YARD = ("yard", "narrow", (("pass", "door", (("at", True, (("clock", 0, 420),)),)),
                           ("let", None, (("many", False, (("from", None, 5),)),))))
LOCK = ("lock", "refusals", ())
PLAIN = (FIELDS, GROUPS, (DOOR, YARD, LOCK))
OTHER = ((("how", "marks", ("read", "own")), ("net", "bits", 3)), (), (("one", "first", ()),))


def small(name, to="door"):
    return (name, "first", (("pass", to, ()), ("let", None, (("who", True, (("name", "bob"),)),))))


class Plain(unittest.TestCase):
    def test_as_told(self):
        for plain in (PLAIN, OTHER):
            house = house_of(plain)
            self.assertIsInstance(house, House)
            self.assertEqual(house.plain(), plain)
            self.assertIs(type(house.plain()), tuple)
            self.assertEqual([type(one) for one in house.plain()], [tuple, tuple, tuple])
            self.assertEqual(house_of(house.plain()).plain(), plain)

    def test_by_chance(self):
        chance = random.Random(21)
        for _ in range(50):
            plain = house_by_chance(chance, KINDS, 4, 5, 8)
            house = house_of(plain)
            self.assertEqual(house.plain(), plain)
            self.assertEqual(house.gates(), [gate[0] for gate in plain[2]])
            self.assertEqual([house.gate(gate[0]) for gate in plain[2]], list(plain[2]))
            self.assertEqual(tuple(field.plain() for field in house.fields()), plain[0])


class Fields(unittest.TestCase):
    def test_in_order(self):
        for plain in (PLAIN, OTHER):
            fields = house_of(plain).fields()
            self.assertIs(type(fields), list)
            self.assertEqual([field.plain() for field in fields], list(plain[0]))
            for field in fields:
                self.assertIsInstance(field, Field)

    def test_list_is_the_askers_own(self):
        house = house_of(PLAIN)
        house.fields().clear()
        fields = house.fields()
        fields[0] = None
        fields.append("x")
        self.assertEqual([field.called() for field in house.fields()], ["who", "where", "many", "at"])
        self.assertEqual(house.numbers(("ann", "a", 0, "00:00")), (0, 0, 0, 0))


class Folks(unittest.TestCase):
    def test_with_the_groups(self):
        folk = house_of(PLAIN).folk("who")
        self.assertIsInstance(folk, Folk)
        self.assertEqual(folk.people(), ["ann", "bob", "cy"])
        self.assertEqual(folk.groups(), ["crew", "top"])
        self.assertEqual(folk.straight("crew"), ["cy", "ann"])
        self.assertEqual(folk.straight("top"), ["crew"])
        self.assertEqual(folk.in_it("top"), ["ann", "cy"])

    def test_none_of_fields_without_names(self):
        house = house_of(PLAIN)
        for name in ("where", "many", "at"):
            self.assertIsNone(house.folk(name))
        for name in ("how", "net"):
            self.assertIsNone(house_of(OTHER).folk(name))

    def test_each_field_has_its_own_groups(self):
        fields = (("who", "names", ("ann", "bob")), ("what", "names", ("bob", "ann")))
        groups = (("what", "crew", ("ann",)), ("who", "crew", ("bob", "ann")), ("who", "b", ("crew",)))
        house = house_of((fields, groups, (LOCK,)))
        self.assertEqual(house.folk("what").groups(), ["crew"])
        self.assertEqual(house.folk("what").in_it("crew"), ["ann"])
        self.assertEqual(house.folk("who").groups(), ["b", "crew"])
        self.assertEqual(house.folk("who").straight("crew"), ["bob", "ann"])
        self.assertEqual(house.box((("what", False, (("name", "crew"),)), ("who", False, (("name", "crew"),)))),
                         (((0, 1),), ((1, 1),)))

    def test_a_new_one_each_time(self):
        house = house_of(PLAIN)
        conditions = (("who", False, (("name", "top"),)),)
        before = house.box(conditions)
        folk, other = house.folk("who"), house.folk("who")
        folk.put("crew", "bob")
        folk.put("more", "bob")
        folk.take("top", "crew")
        self.assertEqual(other.straight("crew"), ["cy", "ann"])
        self.assertEqual(house.folk("who").groups(), ["crew", "top"])
        self.assertEqual(house.folk("who").straight("top"), ["crew"])
        self.assertEqual(house.box(conditions), before)
        self.assertEqual(house.plain(), PLAIN)


class Gates(unittest.TestCase):
    def test_names_as_told(self):
        house = house_of(PLAIN)
        self.assertEqual(house.gates(), ["door", "yard", "lock"])
        house.gates().clear()
        told = house.gates()
        told.reverse()
        self.assertEqual(house.gates(), ["door", "yard", "lock"])

    def test_gate(self):
        house = house_of(PLAIN)
        for plain in (DOOR, YARD, LOCK):
            self.assertEqual(house.gate(plain[0]), plain)

    def test_no_gate(self):
        house = house_of(PLAIN)
        wrong = ["", "doo", "doors", "Door", " door", "door\n", "who", "crew", "first", ("door",), (), DOOR, b"door"]
        for name in wrong + odd_things() + odd_lists() + odd_numbers():
            with self.assertRaises(NoGate) as caught:
                house.gate(name)
            self.assertIs(type(caught.exception), NoGate)
        self.assertEqual(house.plain(), PLAIN)


class Askings(unittest.TestCase):
    def refused(self, place, asking, plain=PLAIN):
        house = house_of(plain)
        with self.assertRaises(BadAsking) as caught:
            house.numbers(asking)
        self.assertIs(type(caught.exception), BadAsking)
        self.assertIsInstance(caught.exception, GateError)
        self.assertEqual(caught.exception.place, place)
        self.assertIs(type(caught.exception.place), int)
        self.assertEqual(house.plain(), plain)

    def test_numbers_and_asking(self):
        house = house_of(PLAIN)
        told = [(("ann", "a", 0, "00:00"), (0, 0, 0, 0)), (("cy", "c", HIGH, "23:59"), (2, 2, HIGH, 1439)),
                (("bob", "a/b", 17, "07:05"), (1, 1, 17, 425))]
        for asking, numbers in told:
            self.assertEqual(house.numbers(asking), numbers)
            self.assertIs(type(house.numbers(asking)), tuple)
            self.assertEqual(house.asking(numbers), asking)
            self.assertIs(type(house.asking(numbers)), tuple)
        other = house_of(OTHER)
        self.assertEqual(other.numbers((("read", "own"), "011")), (3, 3))
        self.assertEqual(other.asking((2, 4)), (("own",), "100"))

    def test_of_each_other(self):
        chance = random.Random(22)
        for _ in range(40):
            house = house_of(house_by_chance(chance, KINDS, 4, 5))
            mosts = [field.most() for field in house.fields()]
            for _ in range(20):
                numbers = tuple(chance.randint(0, most) for most in mosts)
                asking = house.asking(numbers)
                self.assertEqual(house.numbers(asking), numbers)
                for field, value, number in zip(house.fields(), asking, numbers):
                    self.assertEqual(field.number_of(value), number)

    def test_no_tuple_of_as_many(self):
        good = ("ann", "a", 0, "00:00")
        for asking in [(), good[:3], good + ("ann",), list(good), "anna", "", 4, 0] + odd_things() + odd_lists():
            self.refused(-1, asking)
        self.refused(-1, (None, None, None))
        self.refused(-1, (None, None, None, None, None))
        self.refused(-1, (), OTHER)
        for number in odd_numbers():
            self.refused(-1, number)

    def test_one_field(self):
        plain = ((("many", "number", 3),), (), (LOCK,))
        self.assertEqual(house_of(plain).numbers((3,)), (3,))
        self.refused(0, (4,), plain)
        self.refused(-1, 3, plain)
        self.refused(-1, [3], plain)
        self.refused(-1, (), plain)

    def test_the_place_of_the_first_that_is_none(self):
        good = ("ann", "a/b", 5, "07:05")
        bad = ("crew", "a/c", HIGH + 1, "24:00")
        for wrong in itertools.product((False, True), repeat=4):
            if any(wrong):
                asking = tuple(bad[at] if wrong[at] else good[at] for at in range(4))
                self.refused(wrong.index(True), asking)

    def test_whatever_is_no_value(self):
        good = ("ann", "a", 0, "00:00")
        for thing in odd_things() + odd_lists() + odd_numbers() + ["", "zed", ()]:
            for place in range(4):
                self.refused(place, good[:place] + (thing,) + good[place + 1:])
            self.refused(0, (thing, thing, thing, thing))
            self.refused(2, good[:2] + (thing, Thorny()))

    def test_true_and_false_are_no_numbers(self):
        self.refused(2, ("ann", "a", True, "00:00"))
        self.refused(2, ("ann", "a", False, "00:00"))

    def test_values_of_other_fields(self):
        self.refused(0, ("a", "ann", 0, "00:00"))
        self.refused(1, ("ann", "ann", 0, "00:00"))
        self.refused(2, ("ann", "a", "00:00", 0))
        self.refused(0, ("who", "where", "many", "at"))


class Boxes(unittest.TestCase):
    def test_a_field_without_a_condition_has_all(self):
        house = house_of(PLAIN)
        whole = (((0, 2),), ((0, 2),), ((0, HIGH),), ((0, 1439),))
        self.assertEqual(house.box(()), whole)
        self.assertEqual(house.box((("many", False, (("from", 1, 2),)),)), whole[:2] + (((1, 2),),) + whole[3:])
        told = house.box((("at", True, (("clock", 1, 1438),)), ("who", False, (("name", "top"),))))
        self.assertEqual(told, (((0, 0), (2, 2)),) + whole[1:3] + (((0, 0), (1439, 1439)),))

    def test_of_each_field(self):
        house = house_of(PLAIN)
        told = house.box((("at", False, (("clock", 1439, 0),)), ("many", False, (("from", 5, None),)),
                          ("where", False, (("under", "a/b"), ("path", "c"))), ("who", True, (("name", "crew"),))))
        self.assertEqual(told, (((1, 1),), ((1, 2),), ((5, HIGH),), ((0, 0), (1439, 1439))))

    def test_an_empty_box(self):
        house = house_of(PLAIN)
        self.assertEqual(house.box((("where", False, (("under", "zz"),)),))[1], ())
        self.assertEqual(house.box((("many", True, (("from", None, None),)),))[2], ())

    def test_by_chance(self):
        chance = random.Random(23)
        for _ in range(200):
            fields = tuple(field_by_chance(chance, name, chance.choice(KINDS), 4)
                           for name in ("a", "b", "c", "d")[:chance.randint(1, 4)])
            groups = groups_by_chance(chance, fields, 9)
            some = chance.sample(fields, chance.randint(0, len(fields)))
            conditions = tuple(condition_by_chance(chance, field, groups) for field in some)
            house = house_of((fields, groups, (LOCK,)))
            told = house.box(conditions)
            self.assertIs(type(told), tuple)
            self.assertEqual(len(told), len(fields))
            by_name = {one[0]: one for one in conditions}
            for field, one in zip(house.fields(), told):
                self.assertIsNone(need_set(field.most(), one))
                if field.called() in by_name:
                    self.assertEqual(one, set_by_look(field.plain(), groups, by_name[field.called()]))
                else:
                    self.assertEqual(one, ((0, field.most()),))
            self.assertEqual(house.box(tuple(reversed(conditions))), told)


class WithGate(unittest.TestCase):
    def test_behind_all_others(self):
        house = house_of(PLAIN)
        one = small("side")
        other = house.with_gate(one)
        self.assertIsInstance(other, House)
        self.assertEqual(other.plain(), (FIELDS, GROUPS, (DOOR, YARD, LOCK, one)))
        self.assertEqual(other.gates(), ["door", "yard", "lock", "side"])
        self.assertEqual(other.gate("side"), one)
        self.assertEqual(other.gate("yard"), YARD)
        self.assertEqual(other.folk("who").in_it("top"), ["ann", "cy"])
        self.assertEqual(other.numbers(("bob", "a/b", 17, "07:05")), (1, 1, 17, 425))

    def test_the_first_house_stands(self):
        house = house_of(PLAIN)
        house.with_gate(small("side"))
        self.assertEqual(house.plain(), PLAIN)
        self.assertEqual(house.gates(), ["door", "yard", "lock"])
        with self.assertRaises(NoGate):
            house.gate("side")

    def test_two_of_one_house(self):
        house = house_of(PLAIN)
        one, other = house.with_gate(small("side")), house.with_gate(small("back"))
        self.assertEqual(one.gates(), ["door", "yard", "lock", "side"])
        self.assertEqual(other.gates(), ["door", "yard", "lock", "back"])
        with self.assertRaises(NoGate):
            one.gate("back")

    def test_a_sixth_gate_too(self):
        house = house_of((FIELDS, GROUPS, (DOOR, YARD, LOCK, small("four"), small("five"))))
        six = house.with_gate(small("six", "five"))
        self.assertEqual(six.gates(), ["door", "yard", "lock", "four", "five", "six"])
        self.assertEqual(six.gate("six"), small("six", "five"))
        self.assertEqual(six.with_gate(small("seven", "six")).gates()[-1], "seven")
        self.assertEqual(house.gates(), ["door", "yard", "lock", "four", "five"])


class Methods(unittest.TestCase):
    def test_stand_in_the_class(self):
        for method in ("plain", "fields", "folk", "gates", "gate", "numbers", "asking", "box", "with_gate"):
            self.assertIn(method, vars(House))

    def test_defined_in_this_file(self):
        for one in (House, house_of):
            self.assertEqual(one.__module__, house_file.__name__)
