import random
import unittest

from gatewright import walking
from gatewright.errors import BadAsking, NoGate, TooMuch
from gatewright.house import house_of
from gatewright.reading import read
from gatewright.sets import need_set
from gatewright.walking import answered, asked, flat
from tests.chances import KINDS, house_by_chance
from tests.looks import Looked, askings_of, in_box, numbers_in
from tests.odd import Thorny, odd_lists, odd_numbers, odd_things

HIGH = 10 ** 12
FIELDS = """field who names ann bob cy dan
field many number 9
group who crew cy ann
"""


def house_with(text):
    return read(FIELDS + text)


class Asked(unittest.TestCase):
    def test_first(self):
        house = house_with("gate a first\nlet\nrefuse who:ann\nlet many:1\nrefuse")
        self.assertEqual(asked(house, "a"), [0, 1, 2, 3])
        self.assertIs(type(asked(house, "a")), list)

    def test_no_rules(self):
        for order in ("first", "refusals", "narrow"):
            self.assertEqual(asked(house_with("gate a " + order), "a"), [])

    def test_refusals(self):
        house = house_with("gate b first\ngate a refusals\nlet\nrefuse\npass b\nrefuse who:ann\nlet many:1\nrefuse")
        self.assertEqual(asked(house, "a"), [1, 3, 5, 0, 2, 4])

    def test_refusals_of_one_sort_alone(self):
        self.assertEqual(asked(house_with("gate a refusals\nlet\nlet who:ann\nlet"), "a"), [0, 1, 2])
        self.assertEqual(asked(house_with("gate a refusals\nrefuse\nrefuse who:ann"), "a"), [0, 1])

    def test_narrow(self):
        house = house_with("gate a narrow\nlet\nrefuse who:ann\nlet many:1\nrefuse who:ann many:1..2\nlet who:crew many:3")
        self.assertEqual(asked(house, "a"), [3, 4, 2, 1, 0])

    def test_narrow_of_as_many_the_first_told(self):
        house = house_with("gate a narrow\nlet who:ann\nlet many:1|2 who:!ann|bob\nrefuse who:bob\nlet many:5\nrefuse many:6")
        self.assertEqual(asked(house, "a"), [1, 3, 4, 0, 2])

    def test_narrow_with_empty_boxes(self):
        house = house_with("gate b first\nlet who:ann\ngate a narrow\nlet who:ann many:1\nlet many:!..\npass b many:!..\n"
                           "refuse who:!crew|bob|dan many:1")
        self.assertEqual(asked(house, "a"), [1, 2, 3, 0])

    def test_narrow_by_its_own_box_where_it_passes(self):
        house = house_with("gate b first\nlet who:ann many:1\ngate a narrow\npass b\nlet many:1..5\npass b who:ann")
        self.assertEqual(asked(house, "a"), [2, 1, 0])

    def test_narrow_of_great_fields(self):
        house = read("field a number 1000000000000\nfield b number 1000000000000\nfield c bits 32\nfield d clock\n"
                     "gate g narrow\nlet\nlet a:1..\nlet b:0..999999999999 a:1..\nlet a:2.. b:1..\nlet d:!00:00\nlet c:!" +
                     "0" * 32)
        self.assertEqual(asked(house, "g"), [4, 5, 3, 2, 1, 0])

    def test_list_is_the_askers_own(self):
        for order in ("first", "refusals", "narrow"):
            house = house_with("gate a " + order + "\nlet who:ann many:1\nlet who:ann\nlet")
            asked(house, "a").reverse()
            told = asked(house, "a")
            told.clear()
            self.assertEqual(asked(house, "a"), [0, 1, 2])
            self.assertEqual(answered(house, "a", ("bob", 1)), ("let", (("a", 2),)))


class Answered(unittest.TestCase):
    def test_the_first_rule_whose_box_has_it(self):
        house = house_with("gate a first\nlet who:ann\nrefuse many:1\nlet who:ann|bob many:!2")
        self.assertEqual(answered(house, "a", ("ann", 1)), ("let", (("a", 0),)))
        self.assertEqual(answered(house, "a", ("bob", 1)), ("refuse", (("a", 1),)))
        self.assertEqual(answered(house, "a", ("bob", 0)), ("let", (("a", 2),)))
        self.assertEqual(answered(house, "a", ("bob", 2)), (None, None))
        self.assertEqual(answered(house, "a", ("cy", 1)), ("refuse", (("a", 1),)))

    def test_no_rules(self):
        self.assertEqual(answered(house_with("gate a first"), "a", ("ann", 1)), (None, None))

    def test_orders(self):
        rules = "\nlet\nrefuse who:crew\nlet who:ann"
        told = {"first": ("let", (("a", 0),)), "refusals": ("refuse", (("a", 1),)), "narrow": ("let", (("a", 2),))}
        for order, want in told.items():
            house = house_with("gate a " + order + rules)
            self.assertEqual(answered(house, "a", ("ann", 1)), want)
            self.assertEqual(answered(house, "a", ("bob", 1)), ("let", (("a", 0),)))

    def test_through_several_gates(self):
        house = house_with("gate a first\nrefuse many:9\nlet who:crew\ngate b refusals\npass a many:5..\n"
                           "gate c narrow\nrefuse who:bob\npass b\ngate d first\nlet many:0\npass c who:!dan\nlet")
        self.assertEqual(answered(house, "d", ("ann", 0)), ("let", (("d", 0),)))
        self.assertEqual(answered(house, "d", ("ann", 9)), ("refuse", (("d", 1), ("c", 1), ("b", 0), ("a", 0))))
        self.assertEqual(answered(house, "d", ("cy", 5)), ("let", (("d", 1), ("c", 1), ("b", 0), ("a", 1))))
        self.assertEqual(answered(house, "d", ("bob", 9)), ("refuse", (("d", 1), ("c", 0))))
        self.assertEqual(answered(house, "d", ("dan", 9)), ("let", (("d", 2),)))
        self.assertEqual(answered(house, "c", ("cy", 5)), ("let", (("c", 1), ("b", 0), ("a", 1))))

    def test_back_to_the_next_rule(self):
        house = house_with("gate a first\nlet who:ann\ngate b first\npass a\nrefuse who:bob\n"
                           "gate c first\npass b\npass a many:1\nlet many:1..2\nrefuse")
        self.assertEqual(answered(house, "c", ("ann", 1)), ("let", (("c", 0), ("b", 0), ("a", 0))))
        self.assertEqual(answered(house, "c", ("bob", 1)), ("refuse", (("c", 0), ("b", 1))))
        self.assertEqual(answered(house, "c", ("cy", 1)), ("let", (("c", 2),)))
        self.assertEqual(answered(house, "c", ("cy", 3)), ("refuse", (("c", 3),)))
        self.assertEqual(answered(house, "b", ("cy", 3)), (None, None))

    def test_the_same_gate_twice(self):
        house = house_with("gate a first\nlet who:crew\ngate b first\npass a many:1\nrefuse many:1\npass a")
        self.assertEqual(answered(house, "b", ("ann", 1)), ("let", (("b", 0), ("a", 0))))
        self.assertEqual(answered(house, "b", ("bob", 1)), ("refuse", (("b", 1),)))
        self.assertEqual(answered(house, "b", ("ann", 2)), ("let", (("b", 2), ("a", 0))))
        self.assertEqual(answered(house, "b", ("bob", 2)), (None, None))

    def test_a_sixth_gate(self):
        house = house_with("gate a first\nlet who:ann" + "".join(
            "\ngate " + name + " first\npass " + ahead for name, ahead in zip("bcde", "abcd")))
        six = house.with_gate(("f", "first", (("refuse", None, (("many", False, (("from", 1, 1),)),)), ("pass", "e", ()))))
        self.assertEqual(answered(six, "f", ("ann", 1)), ("refuse", (("f", 0),)))
        self.assertEqual(answered(six, "f", ("ann", 2)),
                         ("let", (("f", 1), ("e", 0), ("d", 0), ("c", 0), ("b", 0), ("a", 0))))
        with self.assertRaises(NoGate):
            answered(house, "f", ("ann", 1))

    def test_more_than_ten_flat_rules_are_answered(self):
        house = house_with("gate a first\n" + "let who:ann many:1\n" * 6 + "gate b first\npass a\npass a\nrefuse")
        with self.assertRaises(TooMuch):
            flat(house, "b")
        self.assertEqual(answered(house, "b", ("ann", 1)), ("let", (("b", 0), ("a", 0))))
        self.assertEqual(answered(house, "b", ("bob", 1)), ("refuse", (("b", 2),)))

    def test_great_fields(self):
        house = read("field a number 1000000000000\nfield c bits 32\ngate g first\nlet a:1000000000000 c:1*\nrefuse a:..9")
        self.assertEqual(answered(house, "g", (HIGH, "1" * 32)), ("let", (("g", 0),)))
        self.assertEqual(answered(house, "g", (HIGH, "0" * 32)), (None, None))
        self.assertEqual(answered(house, "g", (9, "0" * 32)), ("refuse", (("g", 1),)))
        self.assertEqual(answered(house, "g", (HIGH - 1, "1" * 32)), (None, None))

    def test_by_chance(self):
        chance = random.Random(41)
        for _ in range(60):
            plain = house_by_chance(chance, KINDS[:5], 3, 2, 5)
            house, look = house_of(plain), Looked(plain)
            for name in house.gates():
                self.assertEqual(asked(house, name), look.asked(name))
                for asking in chance.sample(look.askings, min(60, len(look.askings))):
                    self.assertEqual(answered(house, name, asking), look.answered(name, asking))
            self.assertEqual(house.plain(), plain)

    def test_clocks_by_chance(self):
        chance = random.Random(42)
        for _ in range(10):
            plain = house_by_chance(chance, KINDS[5:], 1, 2, 5)
            house, look = house_of(plain), Looked(plain)
            for name in house.gates():
                self.assertEqual(asked(house, name), look.asked(name))
                for asking in chance.sample(look.askings, 80) + look.askings[:3] + look.askings[-3:]:
                    self.assertEqual(answered(house, name, asking), look.answered(name, asking))


class Refused(unittest.TestCase):
    def house(self):
        return house_with("gate a first\nlet who:ann\ngate b narrow\npass a\nrefuse")

    def test_no_gate(self):
        house, before = self.house(), self.house().plain()
        for name in ["", "zed", "A", "who", "crew", "ab", ("a",), (), ["a"]] + odd_things() + odd_lists() + odd_numbers():
            for ask in (lambda: asked(house, name), lambda: flat(house, name), lambda: answered(house, name, ("ann", 1))):
                with self.assertRaises(NoGate) as caught:
                    ask()
                self.assertIs(type(caught.exception), NoGate)
        self.assertEqual(house.plain(), before)

    def test_no_gate_ahead_of_bad_asking(self):
        for asking in ((), None, ("zed", 1), ("ann", 10), ["ann", 1], Thorny()):
            for name in ("zed", None, [], Thorny()):
                with self.assertRaises(NoGate):
                    answered(self.house(), name, asking)

    def test_bad_asking(self):
        house = self.house()
        told = [((), -1), (("ann",), -1), (("ann", 1, 1), -1), (["ann", 1], -1), (None, -1), ("ann", -1), (7, -1),
                (("zed", 1), 0), (("crew", 1), 0), (("zed", 10), 0), ((None, None), 0), (("ann", 10), 1), (("ann", -1), 1),
                (("ann", "1"), 1), (("ann", True), 1), (("ann", None), 1), ((Thorny(), 1), 0), (("ann", Thorny()), 1)]
        for thing in odd_things() + odd_lists() + odd_numbers():
            told.extend([(thing, -1), ((thing, 1), 0), (("ann", thing), 1)])
        for name in ("a", "b"):
            for asking, place in told:
                with self.assertRaises(BadAsking) as caught:
                    answered(house, name, asking)
                self.assertIs(type(caught.exception), BadAsking)
                self.assertEqual(caught.exception.place, place)

    def test_a_gate_without_rules_refuses_them_too(self):
        with self.assertRaises(BadAsking):
            answered(house_with("gate a first"), "a", ("zed", 1))


class Flat(unittest.TestCase):
    def test_of_one_gate(self):
        house = house_with("gate a refusals\nlet who:crew\nrefuse many:5..\nlet who:bob many:!1")
        whole = (((0, 3),), ((0, 9),))
        told = [((("a", 1),), "refuse", (whole[0], ((5, 9),))),
                ((("a", 0),), "let", (((0, 0), (2, 2)), whole[1])),
                ((("a", 2),), "let", (((1, 1),), ((0, 0), (2, 9))))]
        self.assertEqual(flat(house, "a"), told)
        self.assertIs(type(flat(house, "a")), list)
        self.assertEqual(flat(house_with("gate a first"), "a"), [])
        self.assertEqual(flat(house_with("gate a first\nlet"), "a"), [((("a", 0),), "let", whole)])

    def test_of_gates_passed_to(self):
        house = house_with("gate a refusals\nlet who:ann\nrefuse many:..5\ngate b narrow\nlet\npass a who:crew many:3..\n"
                           "gate c first\nrefuse who:bob\npass b many:4..7\npass a")
        crew, whole = ((0, 0), (2, 2)), ((0, 3),)
        self.assertEqual(flat(house, "c"), [
            ((("c", 0),), "refuse", (((1, 1),), ((0, 9),))),
            ((("c", 1), ("b", 1), ("a", 1)), "refuse", (crew, ((4, 5),))),
            ((("c", 1), ("b", 1), ("a", 0)), "let", (((0, 0),), ((4, 7),))),
            ((("c", 1), ("b", 0)), "let", (whole, ((4, 7),))),
            ((("c", 2), ("a", 1)), "refuse", (whole, ((0, 5),))),
            ((("c", 2), ("a", 0)), "let", (((0, 0),), ((0, 9),)))])

    def test_boxes_without_any_asking(self):
        house = house_with("gate a first\nlet who:ann many:1\nlet many:!..\ngate b first\npass a who:bob many:2")
        self.assertEqual(flat(house, "b"), [((("b", 0), ("a", 0)), "let", ((), ())),
                                            ((("b", 0), ("a", 1)), "let", (((1, 1),), ()))])

    def test_a_gate_passed_to_in_its_own_order(self):
        # Cut with the box of the rule that passes the second box is the smaller one, but alone it is not.
        house = house_with("gate a narrow\nlet who:ann|bob\nlet who:!ann\ngate b first\npass a who:ann|cy")
        self.assertEqual([way for way, _, _ in flat(house, "b")], [(("b", 0), ("a", 0)), (("b", 0), ("a", 1))])

    def test_ten_and_eleven(self):
        five = "gate a first\n" + "let who:ann\nrefuse\n" * 2 + "let\n"
        house = house_with(five + "gate b first\npass a\npass a\ngate c first\npass b\ngate d first\npass b\nlet")
        self.assertEqual([len(flat(house, name)) for name in "abc"], [5, 10, 10])
        with self.assertRaises(TooMuch) as caught:
            flat(house, "d")
        self.assertIs(type(caught.exception), TooMuch)
        house = house_with(five + "gate b first\npass a\nrefuse\npass a\n")
        with self.assertRaises(TooMuch):
            flat(house, "b")

    def test_empty_boxes_are_counted_too(self):
        house = house_with("gate a first\n" + "let many:!..\n" * 5 + "gate b first\npass a\npass a\ngate c first\npass b\n"
                           "let who:ann many:!..")
        self.assertEqual(len(flat(house, "b")), 10)
        with self.assertRaises(TooMuch):
            flat(house, "c")
        self.assertEqual(answered(house, "c", ("ann", 1)), (None, None))

    def test_an_empty_pass_counts_too(self):
        house = house_with("gate a first\n" + "let\n" * 6 + "gate b first\npass a many:!..\npass a who:!ann|bob|cy|dan")
        with self.assertRaises(TooMuch):
            flat(house, "b")

    def test_gates_that_are_not_passed_to_do_not_count(self):
        house = house_with("gate a first\n" + "let\n" * 6 + "gate b first\npass a\npass a\ngate c first\npass a\nlet\nlet")
        self.assertEqual(len(flat(house, "c")), 8)

    def test_gates_of_many_steps(self):
        house = house_with("gate a first\ngate b first\npass a\npass a")
        for name in ["g" + "x" * number for number in range(1, 8)]:
            house = house.with_gate((name, "first", (("pass", house.gates()[-1], ()),) * 2))
        self.assertEqual(flat(house, "gxxxxxxx"), [])
        self.assertEqual(answered(house, "gxxxxxxx", ("ann", 1)), (None, None))

    def test_list_is_the_askers_own(self):
        house = house_with("gate a first\nlet who:ann\ngate b first\npass a\nrefuse")
        before = flat(house, "b")
        flat(house, "b").clear()
        told = flat(house, "b")
        told.reverse()
        told[0] = None
        self.assertEqual(flat(house, "b"), before)
        self.assertEqual(flat(house, "a"), [((("a", 0),), "let", (((0, 0),), ((0, 9),)))])
        self.assertEqual(answered(house, "b", ("ann", 1)), ("let", (("b", 0), ("a", 0))))

    def test_by_chance(self):
        chance = random.Random(43)
        much = 0
        for _ in range(80):
            plain = house_by_chance(chance, KINDS[:5], 3, 2, 5)
            house, look = house_of(plain), Looked(plain)
            for name in house.gates():
                want = look.flat(name)
                if len(want) > 10:
                    much += 1
                    self.assertRaises(TooMuch, flat, house, name)
                    continue
                told = flat(house, name)
                self.assertEqual([one[:2] for one in told], [one[:2] for one in want])
                for (way, word, box), (_, _, on_way) in zip(told, want):
                    self.assertEqual([type(one) for one in (way, word, box)], [tuple, str, tuple])
                    for field, one in zip(house.fields(), box):
                        self.assertIsNone(need_set(field.most(), one))
                    self.assertEqual([numbers_in(one) for one in box], look.box(on_way))
            self.assertEqual(house.plain(), plain)
        self.assertGreater(much, 5)

    def test_the_first_box_gives_the_answer(self):
        chance = random.Random(44)
        for _ in range(40):
            plain = house_by_chance(chance, KINDS[:5], 3, 2, 3)
            house = house_of(plain)
            for name in house.gates():
                try:
                    rows = flat(house, name)
                except TooMuch:
                    continue
                for asking in askings_of(plain):
                    numbers = house.numbers(asking)
                    found = [(word, way) for way, word, box in rows if in_box(box, numbers)]
                    self.assertEqual(answered(house, name, asking), found[0] if found else (None, None))


class Files(unittest.TestCase):
    def test_defined_in_this_file(self):
        for one in (asked, answered, flat):
            self.assertEqual(one.__module__, walking.__name__)
