import random
import unittest

from gatewright import needs
from gatewright.errors import NoGate, NoRule, TooMuch
from gatewright.house import house_of
from gatewright.needs import lean, meeting, need_shown
from gatewright.reading import read
from gatewright.walking import answered, flat
from tests.chances import KINDS, great_house_by_chance, house_by_chance
from tests.looks import Looked
from tests.odd import Thorny, odd_lists, odd_numbers, odd_things

HIGH = 10 ** 12
FIELDS = """field who names ann bob cy dan
field many number 9
group who crew cy ann
"""
ASKS = (need_shown, meeting)
SIX = "\nlet who:ann\nrefuse many:5\nlet who:bob many:1..3\nlet\nrefuse\nlet who:!crew"


def house_with(text):
    return read(FIELDS + text)


class Looks(unittest.TestCase):
    """Each rule of each gate against a look at every asking."""

    def looked_through(self, house, look):
        for name in house.gates():
            many = len(house.gate(name)[2])
            try:
                flat(house, name)
            except TooMuch:
                self.assertRaises(TooMuch, lean, house, name)
                for place in range(many):
                    for ask in ASKS:
                        self.assertRaises(TooMuch, ask, house, name, place)
                continue
            words = look.words(name)
            ways = {asking: look.answered(name, asking)[1] for asking in look.askings}
            for place in range(many):
                without = look.without(name, [place]).words(name)
                self.assertEqual(need_shown(house, name, place), look.first(lambda one: words[one] != without[one]))
                self.assertEqual(meeting(house, name, place),
                                 look.first(lambda one: ways[one] is not None and ways[one][0] == (name, place)))
            told = lean(house, name)
            self.assertEqual(told, look.lean(name))
            self.assertIs(type(told), list)
            self.assertEqual(look.without(name, [at for at in range(many) if at not in told]).words(name), words)
        self.assertEqual(house.plain(), look.plain)

    def test_by_chance(self):
        chance = random.Random(81)
        for _ in range(120):
            plain = house_by_chance(chance, KINDS[:5], 3, 2, 5)
            self.looked_through(house_of(plain), Looked(plain))

    def test_clocks(self):
        chance = random.Random(82)
        for _ in range(6):
            plain = house_by_chance(chance, KINDS[5:], 1, 2, 4)
            self.looked_through(house_of(plain), Looked(plain))

    def test_great_houses(self):
        chance = random.Random(83)
        for _ in range(40):
            plain = great_house_by_chance(chance)
            self.looked_through(house_of(plain), Looked(plain, True))


class NeedShown(unittest.TestCase):
    def test_ordinary(self):
        house = house_with("gate a first\nlet who:ann\nrefuse many:5..\nlet who:crew\nlet who:ann many:9\nrefuse")
        told = [need_shown(house, "a", place) for place in range(5)]
        self.assertEqual(told, [("ann", 5), ("cy", 5), ("cy", 0), None, ("bob", 0)])

    def test_words_count_not_ways(self):
        house = house_with("gate a first\nlet who:ann\nlet\nlet many:3")
        self.assertEqual([need_shown(house, "a", place) for place in range(3)], [None, ("bob", 0), None])

    def test_left_to_none(self):
        house = house_with("gate a first\nlet who:dan many:9")
        self.assertEqual(need_shown(house, "a", 0), ("dan", 9))

    def test_orders(self):
        rules = "\nlet\nrefuse who:crew\nlet who:ann"
        told = {"first": [("ann", 0), None, None], "refusals": [("bob", 0), ("ann", 0), None],
                "narrow": [("bob", 0), ("cy", 0), ("ann", 0)]}
        for order, want in told.items():
            house = house_with("gate a " + order + rules)
            self.assertEqual([need_shown(house, "a", place) for place in range(3)], want)

    def test_a_rule_that_passes(self):
        house = house_with("gate a first\nlet who:ann many:1\nrefuse who:bob\ngate b first\npass a many:..3\nlet who:ann\npass a")
        self.assertEqual([need_shown(house, "b", place) for place in range(3)], [None, ("ann", 0), ("bob", 4)])
        self.assertEqual([meeting(house, "b", place) for place in range(3)], [("ann", 1), ("ann", 0), ("bob", 4)])
        self.assertEqual(lean(house, "b"), [1, 2])

    def test_a_rule_that_passes_to_a_gate_without_rules(self):
        house = house_with("gate a first\ngate b first\npass a\nlet who:ann")
        self.assertEqual([need_shown(house, "b", place) for place in (0, 1)], [None, ("ann", 0)])
        self.assertEqual([meeting(house, "b", place) for place in (0, 1)], [None, ("ann", 0)])
        self.assertEqual(lean(house, "b"), [1])

    def test_an_empty_box(self):
        house = house_with("gate a first\nlet many:!..\nrefuse who:!ann|bob|cy|dan\nlet who:dan")
        self.assertEqual([need_shown(house, "a", place) for place in range(3)], [None, None, ("dan", 0)])
        self.assertEqual([meeting(house, "a", place) for place in range(3)], [None, None, ("dan", 0)])
        self.assertEqual(lean(house, "a"), [2])

    def test_the_same_gate_passed_to_by_two_rules(self):
        house = house_with("gate a first\nlet who:ann\ngate b first\npass a\npass a many:1")
        self.assertEqual([need_shown(house, "b", place) for place in (0, 1)], [("ann", 0), None])
        self.assertEqual([meeting(house, "b", place) for place in (0, 1)], [("ann", 0), None])
        house = house_with("gate a first\nlet who:ann\ngate b first\npass a many:1\npass a")
        self.assertEqual([need_shown(house, "b", place) for place in (0, 1)], [None, ("ann", 0)])
        self.assertEqual([meeting(house, "b", place) for place in (0, 1)], [("ann", 1), ("ann", 0)])

    def test_a_place_of_the_gate_that_is_passed_to_is_not_its_own(self):
        house = house_with("gate a first\nlet who:ann\nlet who:bob\ngate b first\nrefuse who:dan\npass a")
        self.assertEqual(meeting(house, "b", 1), ("ann", 0))
        self.assertEqual(meeting(house, "b", 0), ("dan", 0))
        self.assertEqual(need_shown(house, "b", 0), ("dan", 0))

    def test_great_numbers(self):
        house = read("field a number 1000000000000\nfield b bits 32\ngate g first\nlet a:..999999999999\nrefuse b:0*\nlet a:5..")
        self.assertEqual([need_shown(house, "g", place) for place in range(3)],
                         [(0, "0" * 32), (HIGH, "0" * 32), (HIGH, "1" + "0" * 31)])
        self.assertEqual([meeting(house, "g", place) for place in range(3)],
                         [(0, "0" * 32), (HIGH, "0" * 32), (HIGH, "1" + "0" * 31)])
        self.assertEqual(lean(house, "g"), [0, 1, 2])


class Lean(unittest.TestCase):
    def test_from_the_last_one_on(self):
        # Each of two like rules is needless while the other one is there; the last one goes.
        self.assertEqual(lean(house_with("gate a first\nlet who:ann\nlet who:ann"), "a"), [0])
        self.assertEqual(lean(house_with("gate a first\nlet\nlet\nlet"), "a"), [0])
        self.assertEqual(lean(house_with("gate a first\nlet who:ann\nlet"), "a"), [1])
        self.assertEqual(lean(house_with("gate a first\nlet who:ann\nlet who:bob\nlet who:ann|bob"), "a"), [0, 1])
        self.assertEqual(lean(house_with("gate a first\nrefuse many:..4\nrefuse many:5..\nrefuse"), "a"), [0, 1])

    def test_by_the_places_as_told_not_as_asked(self):
        house = house_with("gate a narrow\nlet\nrefuse who:ann\nlet who:ann many:1\nrefuse who:ann many:1..2")
        self.assertEqual(lean(house, "a"), [0, 1, 2])
        house = house_with("gate a refusals\nlet who:ann\nrefuse who:bob\nlet who:ann\nrefuse who:bob")
        self.assertEqual(lean(house, "a"), [0, 1])

    def test_without_those_left_out(self):
        house = house_with("gate a first\nlet who:crew\nlet who:ann|bob\nlet who:bob|cy")
        self.assertEqual([need_shown(house, "a", place) for place in range(3)], [None, None, None])
        self.assertEqual(lean(house, "a"), [0, 1])

    def test_none_is_left(self):
        self.assertEqual(lean(house_with("gate a first"), "a"), [])
        self.assertEqual(lean(house_with("gate a first\nlet many:!.."), "a"), [])

    def test_eight_rules(self):
        rules = "".join("\n" + word + " many:" + str(number) for number, word in enumerate(("let", "refuse") * 4))
        for order in ("first", "refusals", "narrow"):
            house = house_with("gate a " + order + rules)
            self.assertEqual(lean(house, "a"), list(range(8)))
            self.assertEqual([need_shown(house, "a", place) for place in range(8)], [("ann", place) for place in range(8)])

    def test_all_are_left(self):
        self.assertEqual(lean(house_with("gate a first\nlet who:ann\nrefuse who:!dan\nlet"), "a"), [0, 1, 2])

    def test_list_is_the_askers_own(self):
        house = house_with("gate a first\nlet who:ann\nrefuse\nlet")
        told = lean(house, "a")
        lean(house, "a").clear()
        other = lean(house, "a")
        other.reverse()
        other.append(7)
        self.assertEqual((told, lean(house, "a")), ([0, 1], [0, 1]))
        self.assertEqual(house.gate("a")[2][0][0], "let")


class Refused(unittest.TestCase):
    def refused(self, error, ask, *things):
        with self.assertRaises(error) as caught:
            ask(*things)
        self.assertIs(type(caught.exception), error)

    def test_no_gate(self):
        house = house_with("gate a first\nlet")
        for name in ["", "zed", "A", "who", ("a",)] + odd_things() + odd_lists() + odd_numbers():
            self.refused(NoGate, lean, house, name)
            for ask in ASKS:
                self.refused(NoGate, ask, house, name, 0)
                self.refused(NoGate, ask, house, name, 7)
                self.refused(NoGate, ask, house, name, Thorny())

    def test_no_rule(self):
        house = house_with("gate a first\nlet\nrefuse\ngate b first\ngate c first\npass a")
        before = house.plain()
        told = {"a": (0, 1), "b": (), "c": (0,)}
        for name, good in told.items():
            for place in [-1, -2, len(good), len(good) + 1, "0", "1", (0,), "", ("a", 0)] + odd_things() + odd_lists() + odd_numbers():
                for ask in ASKS:
                    self.refused(NoRule, ask, house, name, place)
            for place in good:
                for ask in ASKS:
                    ask(house, name, place)
        self.assertEqual(house.plain(), before)

    def test_no_rule_ahead_of_too_much(self):
        house = house_with("gate a first" + SIX + "\ngate b first\npass a\npass a")
        for ask in ASKS:
            for place in (2, -1, True, None, "0"):
                self.refused(NoRule, ask, house, "b", place)
                self.refused(NoGate, ask, house, "zed", place)

    def test_too_much(self):
        house = house_with("gate a first" + SIX + "\ngate b first\npass a\npass a\ngate c first\npass a" +
                           "\nlet\nlet\nlet\nlet\ngate d first\npass c\nlet")
        self.assertEqual([len(flat(house, name)) for name in "ac"], [6, 10])
        for name in "bd":
            self.refused(TooMuch, lean, house, name)
            for ask in ASKS:
                for place in (0, 1):
                    self.refused(TooMuch, ask, house, name, place)
        for name in "ac":
            # A gate against itself without a rule is no gate held against itself: it may have up to ten.
            lean(house, name)
            for ask in ASKS:
                for place in range(len(house.gate(name)[2])):
                    ask(house, name, place)

    def test_good_behind_each_refusal(self):
        house = house_with("gate a first" + SIX + "\ngate b first\npass a\npass a")
        before = lean(house, "a"), need_shown(house, "a", 1), meeting(house, "a", 2), answered(house, "b", ("dan", 5))
        self.refused(TooMuch, lean, house, "b")
        self.refused(NoRule, meeting, house, "a", 6)
        self.refused(TooMuch, need_shown, house, "b", 0)
        self.assertEqual((lean(house, "a"), need_shown(house, "a", 1), meeting(house, "a", 2),
                          answered(house, "b", ("dan", 5))), before)


class Files(unittest.TestCase):
    def test_defined_in_this_file(self):
        for one in (need_shown, meeting, lean):
            self.assertEqual(one.__module__, needs.__name__)
