import itertools
import random
import unittest

from gatewright import reasons
from gatewright.errors import BadAsking, NoGate, TooMuch
from gatewright.house import house_of
from gatewright.reading import read
from gatewright.reasons import reason, unlike
from gatewright.walking import answered, flat
from tests.chances import KINDS, great_house_by_chance, house_by_chance
from tests.looks import Looked
from tests.odd import Thorny, odd_lists, odd_numbers, odd_things

HIGH = 10 ** 12
FIELDS = """field who names ann bob cy dan
field many number 9
field how marks read write
group who crew cy ann
"""
SIX = "\nlet who:ann\nrefuse many:5\nlet who:bob many:1..3\nlet\nrefuse\nlet who:!crew"


def house_with(text):
    return read(FIELDS + text)


class ByLook(unittest.TestCase):
    def looked_through(self, chance, house, look, many):
        for name in house.gates():
            askings = chance.sample(look.askings, min(many, len(look.askings)))
            try:
                flat(house, name)
            except TooMuch:
                self.assertRaises(TooMuch, reason, house, name, askings[0])
                self.assertRaises(TooMuch, unlike, house, name, askings[0], [])
                continue
            words = look.words(name)
            fields = [field.called() for field in house.fields()]
            for asking in askings:
                for count in range(len(fields) + 1):
                    for some in itertools.combinations(fields, count):
                        names = chance.sample(some, count)
                        self.assertEqual(unlike(house, name, asking, names), look.unlike(words, asking, names))
                self.assertEqual(reason(house, name, asking), look.reason(words, asking))
        self.assertEqual(house.plain(), look.plain)

    def test_small_houses(self):
        chance = random.Random(91)
        for _ in range(50):
            plain = house_by_chance(chance, KINDS[:5], 3, 2, 5)
            self.looked_through(chance, house_of(plain), Looked(plain), 6)

    def test_houses_of_four_fields(self):
        chance = random.Random(92)
        done = 0
        while done < 8:
            plain = house_by_chance(chance, KINDS[:3] + KINDS[4:5], 4, 1, 5)
            if len(plain[0]) == 4:
                done += 1
                self.looked_through(chance, house_of(plain), Looked(plain), 4)

    def test_clocks(self):
        chance = random.Random(93)
        for _ in range(5):
            plain = house_by_chance(chance, KINDS[5:], 1, 2, 4)
            self.looked_through(chance, house_of(plain), Looked(plain), 5)

    def test_great_houses(self):
        chance = random.Random(94)
        for _ in range(40):
            plain = great_house_by_chance(chance)
            self.looked_through(chance, house_of(plain), Looked(plain, True), 5)


class Unlike(unittest.TestCase):
    house = house_with("gate a first\nlet who:crew many:3..\nrefuse how:+write\nlet who:bob how:-read")

    def test_ordinary(self):
        asking = ("cy", 4, ("write",))
        self.assertEqual(unlike(self.house, "a", asking, ["who", "many", "how"]), None)
        self.assertEqual(unlike(self.house, "a", asking, ["who", "many"]), None)
        self.assertEqual(unlike(self.house, "a", asking, ["who", "how"]), ("cy", 0, ("write",)))
        self.assertEqual(unlike(self.house, "a", asking, ["who"]), ("cy", 0, ()))
        self.assertEqual(unlike(self.house, "a", asking, ["many"]), ("bob", 4, ("read",)))
        self.assertEqual(unlike(self.house, "a", asking, ["many", "how"]), ("bob", 4, ("write",)))

    def test_no_names_all_names_and_another_order(self):
        asking = ("dan", 9, ("read",))
        self.assertEqual(answered(self.house, "a", asking), (None, None))
        self.assertEqual(unlike(self.house, "a", asking, []), ("ann", 0, ("write",)))
        for names in itertools.permutations(["who", "many", "how"]):
            self.assertIsNone(unlike(self.house, "a", asking, list(names)))
        for names in itertools.permutations(["who", "many"]):
            self.assertEqual(unlike(self.house, "a", asking, list(names)), ("dan", 9, ("write",)))
        self.assertEqual(unlike(self.house, "a", asking, ["how", "how"]), ("ann", 3, ("read",)))

    def test_none_is_an_answer_too(self):
        house = house_with("gate a first\nlet who:dan many:9 how:+read+write\ngate b first\ngate c first\nlet")
        self.assertEqual(unlike(house, "a", ("ann", 0, ()), []), ("dan", 9, ("read", "write")))
        self.assertEqual(unlike(house, "a", ("dan", 9, ("read", "write")), []), ("ann", 0, ()))
        self.assertEqual(unlike(house, "a", ("dan", 9, ("read", "write")), ["who", "how"]), ("dan", 0, ("read", "write")))
        for name in "bc":
            self.assertIsNone(unlike(house, name, ("ann", 0, ()), []))

    def test_words_count_not_ways(self):
        house = house_with("gate a first\nlet who:ann\nlet\ngate b first\npass a many:1\nlet")
        for name in "ab":
            self.assertIsNone(unlike(house, name, ("ann", 1, ()), []))
            self.assertEqual(reason(house, name, ("ann", 1, ())), [])

    def test_great_numbers(self):
        house = read("field a number 1000000000000\nfield b bits 32\nfield c clock\ngate g first\nlet a:7..999999999999 c:!00:00..23:58\n"
                     "refuse b:" + "1" * 32)
        asking = (HIGH, "0" * 32, "23:59")
        self.assertEqual(unlike(house, "g", asking, []), (0, "1" * 32, "00:00"))
        self.assertEqual(unlike(house, "g", asking, ["b"]), (7, "0" * 32, "23:59"))
        self.assertEqual(unlike(house, "g", asking, ["b", "a"]), None)
        self.assertEqual(unlike(house, "g", asking, ["b", "c"]), (7, "0" * 32, "23:59"))
        self.assertEqual(unlike(house, "g", asking, ["a"]), (HIGH, "1" * 32, "00:00"))
        self.assertEqual(reason(house, "g", asking), ["a", "b"])
        self.assertEqual(reason(house, "g", (7, "0" * 32, "23:59")), ["a", "c"])

    def test_the_list_handed_in(self):
        names = ["how", "who"]
        told = unlike(self.house, "a", ("cy", 4, ("write",)), names)
        self.assertEqual(names, ["how", "who"])
        names.clear()
        self.assertEqual(told, ("cy", 0, ("write",)))
        self.assertEqual(unlike(self.house, "a", ("cy", 4, ("write",)), ["how", "who"]), told)


class Reason(unittest.TestCase):
    def test_ordinary(self):
        house = Unlike.house
        self.assertEqual(reason(house, "a", ("cy", 4, ("write",))), ["who", "many"])
        self.assertEqual(reason(house, "a", ("cy", 2, ("write",))), ["many", "how"])
        self.assertEqual(reason(house, "a", ("dan", 4, ("write",))), ["who", "how"])
        self.assertEqual(reason(house, "a", ("dan", 2, ())), ["who", "how"])

    def test_from_the_last_field_to_the_first_one(self):
        # Each field alone would be enough; the first one is left, for the last one goes first.
        house = read("field a number 1\nfield b number 1\nfield c number 1\ngate g first\nlet a:1\nlet b:1\nlet c:1")
        self.assertEqual(reason(house, "g", (1, 1, 1)), ["a"])
        self.assertEqual(reason(house, "g", (0, 1, 1)), ["b"])
        self.assertEqual(reason(house, "g", (0, 0, 1)), ["c"])
        self.assertEqual(reason(house, "g", (0, 0, 0)), ["a", "b", "c"])

    def test_of_one_answer_for_all(self):
        house = house_with("gate a first\ngate b first\nrefuse\ngate c first\nlet many:!..")
        for name in "abc":
            self.assertEqual(reason(house, name, ("dan", 9, ("read", "write"))), [])

    def test_list_is_the_askers_own(self):
        told = reason(Unlike.house, "a", ("cy", 4, ("write",)))
        reason(Unlike.house, "a", ("cy", 4, ("write",))).clear()
        other = reason(Unlike.house, "a", ("cy", 4, ("write",)))
        self.assertIs(type(other), list)
        other.reverse()
        other.append("how")
        self.assertEqual((told, reason(Unlike.house, "a", ("cy", 4, ("write",)))), (["who", "many"], ["who", "many"]))
        self.assertEqual([field.called() for field in Unlike.house.fields()], ["who", "many", "how"])


class Refused(unittest.TestCase):
    def asks(self):
        return [reason, lambda house, name, asking: unlike(house, name, asking, ["who"]),
                lambda house, name, asking: unlike(house, name, asking, [])]

    def test_no_gate(self):
        house = house_with("gate a first\nlet")
        for name in ["", "zed", "A", "who", ("a",)] + odd_things() + odd_lists() + odd_numbers():
            for asking in (("ann", 1, ()), ("zed", 1, ()), (), None, Thorny()):
                for ask in self.asks():
                    with self.assertRaises(NoGate) as caught:
                        ask(house, name, asking)
                    self.assertIs(type(caught.exception), NoGate)

    def test_bad_asking(self):
        # Of the second gate much would be refused, but the asking is looked at ahead of that.
        house = house_with("gate a first" + SIX + "\ngate b first\npass a\npass a")
        before = house.plain()
        told = [((), -1), (("ann", 1), -1), (["ann", 1, ()], -1), (("ann", 1, (), 1), -1), (("crew", 1, ()), 0),
                (("ann", 10, ()), 1), (("ann", True, ()), 1), (("ann", 1, ("write", "read")), 2), (("zed", -1, None), 0)]
        for thing in odd_things() + odd_lists() + odd_numbers():
            told.extend([(thing, -1), ((thing, 1, ()), 0), (("ann", thing, ()), 1), (("ann", 1, (thing,)), 2)])
        for name in "ab":
            for asking, place in told:
                for ask in self.asks():
                    with self.assertRaises(BadAsking) as caught:
                        ask(house, name, asking)
                    self.assertIs(type(caught.exception), BadAsking)
                    self.assertEqual(caught.exception.place, place)
        self.assertEqual(house.plain(), before)

    def test_too_much(self):
        house = house_with("gate a first" + SIX + "\ngate b first\npass a\npass a\ngate c first\npass a\nlet\nlet\nlet\nlet\n"
                           "gate d first\npass c\nrefuse")
        for name in "bd":
            for ask in self.asks():
                with self.assertRaises(TooMuch) as caught:
                    ask(house, name, ("ann", 1, ()))
                self.assertIs(type(caught.exception), TooMuch)
        self.assertEqual(reason(house, "c", ("ann", 1, ())), ["who"])
        self.assertEqual(unlike(house, "c", ("ann", 1, ()), []), ("bob", 5, ()))


class Files(unittest.TestCase):
    def test_defined_in_this_file(self):
        for one in (unlike, reason):
            self.assertEqual(one.__module__, reasons.__name__)
