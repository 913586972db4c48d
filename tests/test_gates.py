import random
import unittest

from gatewright import gates
from gatewright.errors import NoGate, TooMuch
from gatewright.gates import counted, differs, many_differ, pair_table, way_table, woven, word_table
from gatewright.house import house_of
from gatewright.reading import read
from gatewright.tables import Table
from gatewright.tablework import changed, combined, leaves
from gatewright.walking import answered, flat
from tests.chances import KINDS, great_house_by_chance, house_by_chance
from tests.looks import Looked
from tests.odd import Thorny, odd_lists, odd_numbers, odd_things
from tests.tablelooks import faults, least_told

HIGH = 10 ** 12
FIELDS = """field who names ann bob cy dan
field many number 9
group who crew cy ann
"""
FIVE = "\nlet who:ann\nrefuse many:5\nlet who:bob many:1..3\nlet\nrefuse"
SIX = FIVE + "\nlet who:!crew"
ONE_GATE = (word_table, way_table, counted)
TWO_GATES = (pair_table, differs, many_differ, lambda house, one, other: woven(house, one, other, lambda here, there: None))


def house_with(text):
    return read(FIELDS + text)


def whole(table):
    return repr((table.mosts(), table.top(), table.tests()))


def much(house, *names):
    """Whether that is refused with TooMuch of some gates together, by their flat lists."""
    try:
        return sum(len(flat(house, name)) for name in names) > 10
    except TooMuch:
        return True


def houses_by_chance(chance, many):
    """Small houses of fields of all kinds, and the looks at them."""
    for at in range(many):
        plain = house_by_chance(chance, KINDS[5:], 1, 2, 4) if at % 10 == 0 else house_by_chance(chance, KINDS[:5], 3, 2, 4)
        yield house_of(plain), Looked(plain)


def great_houses_by_chance(chance, many):
    for _ in range(many):
        plain = great_house_by_chance(chance)
        yield house_of(plain), Looked(plain, True)


class OneGate(unittest.TestCase):
    def test_ordinary(self):
        house = house_with("gate a refusals\nlet who:crew\nrefuse many:5..\ngate b first\npass a who:!dan\nlet many:9")
        self.assertIsInstance(word_table(house, "a"), Table)
        self.assertEqual(word_table(house, "a").mosts(), [3, 9])
        self.assertEqual(word_table(house, "a").top(), ("test", 0))
        self.assertEqual(word_table(house, "a").tests(), [
            (0, ((0, ("test", 1)), (1, ("test", 2)), (2, ("test", 1)), (3, ("test", 2)))),
            (1, ((4, ("leaf", "let")), (9, ("leaf", "refuse")))), (1, ((4, ("leaf", None)), (9, ("leaf", "refuse"))))])
        self.assertEqual(way_table(house, "b").tests()[1], (1, ((4, ("leaf", (("b", 0), ("a", 0)))),
                                                               (9, ("leaf", (("b", 0), ("a", 1)))))))
        self.assertEqual(counted(house, "a"), (10, 20, 10))
        self.assertEqual(counted(house, "b"), (11, 15, 14))
        self.assertIs(type(counted(house, "a")), tuple)

    def test_no_rules_and_empty_boxes(self):
        house = house_with("gate a first\ngate b narrow\nlet many:!..\npass a\nrefuse who:!ann|bob|cy|dan\npass a many:1")
        for name in "ab":
            for table in (word_table(house, name), way_table(house, name)):
                self.assertEqual((table.mosts(), table.top(), table.tests()), ([3, 9], ("leaf", None), []))
            self.assertEqual(counted(house, name), (0, 0, 40))

    def test_one_answer_of_two_rules(self):
        house = house_with("gate a first\nlet who:ann\nlet")
        self.assertEqual((word_table(house, "a").top(), word_table(house, "a").tests()), (("leaf", "let"), []))
        self.assertEqual(way_table(house, "a").tests(), [(0, ((0, ("leaf", (("a", 0),))), (3, ("leaf", (("a", 1),)))))])
        self.assertEqual(counted(house, "a"), (40, 0, 0))

    def test_a_gate_that_answers_none_hands_back(self):
        house = house_with("gate a first\nlet who:ann\ngate b first\npass a many:1..2\nrefuse many:2\nlet")
        table = way_table(house, "b")
        self.assertEqual(table.leaf((0, 1)), (("b", 0), ("a", 0)))
        self.assertEqual(table.leaf((1, 1)), (("b", 2),))
        self.assertEqual(table.leaf((1, 2)), (("b", 1),))
        self.assertEqual(table.leaf((0, 2)), (("b", 0), ("a", 0)))

    def looked_through(self, house, look, least):
        for name in house.gates():
            if much(house, name):
                for ask in ONE_GATE:
                    self.assertRaises(TooMuch, ask, house, name)
                continue
            tables = [word_table(house, name), way_table(house, name)]
            for at, table in enumerate(tables):
                self.assertEqual(table.mosts(), [field.most() for field in house.fields()])
                self.assertEqual(faults(table), [])
                for asking in look.askings:
                    self.assertEqual(table.leaf(house.numbers(asking)), look.answered(name, asking)[at])
                if least:
                    told = least_told(table.mosts(), lambda numbers: answered(house, name, house.asking(numbers))[at])
                    self.assertEqual((table.top(), table.tests()), told)
            words = look.words(name)
            self.assertEqual(counted(house, name), tuple(
                look.many(lambda asking: words[asking] == word) for word in ("let", "refuse", None)))
        self.assertEqual(house.plain(), look.plain)

    def test_by_chance(self):
        for house, look in houses_by_chance(random.Random(71), 80):
            self.looked_through(house, look, len(look.askings) < 500)

    def test_great_houses(self):
        for house, look in great_houses_by_chance(random.Random(72), 60):
            self.looked_through(house, look, False)

    def test_great_numbers(self):
        house = read("field a number 1000000000000\nfield b bits 32\nfield c number 1000000000000\nfield d clock\n"
                     "gate g first\nlet a:1..2 b:0* c:999999999999.. d:23:59\nrefuse a:1000000000000")
        let, refused = 2 * 2 ** 31 * 2, 2 ** 32 * (HIGH + 1) * 1440
        self.assertEqual(counted(house, "g"), (let, refused, (HIGH + 1) ** 2 * 2 ** 32 * 1440 - let - refused))
        self.assertEqual(word_table(house, "g").leaf((2, 2 ** 31 - 1, HIGH, 1439)), "let")
        self.assertEqual(word_table(house, "g").leaf((2, 2 ** 31, HIGH, 1439)), None)

    def test_ten_rules_and_eleven(self):
        house = house_with("gate a narrow" + FIVE + "\ngate b first\npass a\npass a\ngate c first\npass b\nlet many:1")
        self.assertEqual(counted(house, "b"), counted(house, "a"))
        self.assertEqual(leaves(way_table(house, "b")), [(("b", 0),) + way for way in leaves(way_table(house, "a"))])
        for ask in ONE_GATE:
            with self.assertRaises(TooMuch) as caught:
                ask(house, "c")
            self.assertIs(type(caught.exception), TooMuch)
        house = house_with("gate a first\n" + "let many:!..\n" * 6 + "gate b first\n" + "pass a\n" * 2)
        self.assertEqual(counted(house, "a"), (0, 0, 40))
        self.assertRaises(TooMuch, counted, house, "b")


class TwoGates(unittest.TestCase):
    def test_ordinary(self):
        house = house_with("gate a first\nlet who:ann\nrefuse many:5..\ngate b first\nlet who:ann many:..5\npass a who:!ann")
        table = pair_table(house, "a", "b")
        self.assertEqual((table.mosts(), table.top()), ([3, 9], ("test", 0)))
        self.assertEqual(table.tests(), [
            (0, ((0, ("test", 1)), (3, ("test", 2)))),
            (1, ((5, ("leaf", ("let", "let"))), (9, ("leaf", ("let", None))))),
            (1, ((4, ("leaf", (None, None))), (9, ("leaf", ("refuse", "refuse")))))])
        self.assertEqual(differs(house, "a", "b"), ("ann", 6))
        self.assertEqual(many_differ(house, "a", "b"), 4)
        told = woven(house, "a", "b", lambda one, other: one == other and "same" or "other")
        self.assertEqual(told.tests(), [(0, ((0, ("test", 1)), (3, ("leaf", "same")))),
                                        (1, ((5, ("leaf", "same")), (9, ("leaf", "other"))))])

    def test_the_other_way_about(self):
        house = house_with("gate a first\nlet who:ann\ngate b first\nrefuse who:ann many:3\nlet who:ann|bob")
        self.assertEqual(differs(house, "a", "b"), ("ann", 3))
        self.assertEqual(differs(house, "b", "a"), ("ann", 3))
        self.assertEqual((many_differ(house, "a", "b"), many_differ(house, "b", "a")), (11, 11))
        turned = changed(pair_table(house, "a", "b"), lambda both: (both[1], both[0]))
        self.assertEqual(whole(pair_table(house, "b", "a")), whole(turned))
        told = woven(house, "b", "a", lambda one, other: (one, other))
        self.assertEqual(whole(told), whole(pair_table(house, "b", "a")))

    def test_one_gate_with_itself(self):
        house = house_with("gate a refusals" + FIVE + "\ngate b first\npass a\ngate c first\nlet")
        self.assertIsNone(differs(house, "a", "a"))
        self.assertEqual(many_differ(house, "a", "a"), 0)
        self.assertEqual(whole(pair_table(house, "a", "a")), whole(changed(word_table(house, "a"), lambda word: (word, word))))
        self.assertIsNone(differs(house, "a", "b"))
        self.assertEqual(many_differ(house, "b", "a"), 0)
        self.assertEqual(differs(house, "c", "b"), ("ann", 0))

    def test_unlike_ways_of_one_word_are_no_difference(self):
        house = house_with("gate a first\nlet who:ann\nlet\ngate b narrow\nlet")
        self.assertIsNone(differs(house, "a", "b"))
        self.assertEqual(many_differ(house, "a", "b"), 0)
        self.assertEqual(pair_table(house, "a", "b").top(), ("leaf", ("let", "let")))

    def test_none_is_an_answer_too(self):
        house = house_with("gate a first\ngate b first\nrefuse who:dan many:9")
        self.assertEqual(differs(house, "a", "b"), ("dan", 9))
        self.assertEqual(many_differ(house, "b", "a"), 1)

    def test_workers(self):
        house = house_with("gate a first\nlet who:ann\nrefuse many:5..\ngate b first\nrefuse many:3..6")
        seen = []

        def worker(one, other):
            seen.append((one, other))
            return "x"

        told = woven(house, "a", "b", worker)
        self.assertEqual((told.mosts(), told.top(), told.tests()), ([3, 9], ("leaf", "x"), []))
        self.assertEqual(set(seen), set(leaves(pair_table(house, "a", "b"))))
        for worker in (lambda one, other: one, lambda one, other: other, lambda one, other: (one, (other, 1)),
                       lambda one, other: 1 if one == other else 0):
            self.assertEqual(whole(woven(house, "a", "b", worker)),
                             whole(combined(word_table(house, "a"), word_table(house, "b"), worker)))

    def looked_through(self, house, look):
        words = {name: look.words(name) for name in house.gates()}
        for one in house.gates():
            for other in house.gates():
                if much(house, one, other):
                    for ask in TWO_GATES:
                        self.assertRaises(TooMuch, ask, house, one, other)
                    continue
                table = pair_table(house, one, other)
                self.assertEqual(faults(table), [])
                here, there = words[one], words[other]
                for asking in look.askings:
                    self.assertEqual(table.leaf(house.numbers(asking)), (here[asking], there[asking]))
                self.assertEqual(differs(house, one, other), look.first(lambda asking: here[asking] != there[asking]))
                self.assertEqual(many_differ(house, one, other), look.many(lambda asking: here[asking] != there[asking]))
                told = woven(house, one, other, lambda word, another: (word == "let", another))
                self.assertEqual(whole(told), whole(changed(table, lambda both: (both[0] == "let", both[1]))))
                self.assertEqual(faults(told), [])
        self.assertEqual(house.plain(), look.plain)

    def test_by_chance(self):
        for house, look in houses_by_chance(random.Random(73), 50):
            self.looked_through(house, look)

    def test_great_houses(self):
        for house, look in great_houses_by_chance(random.Random(74), 40):
            self.looked_through(house, look)

    def test_great_numbers(self):
        house = read("field a number 1000000000000\nfield b bits 32\nfield c number 1000000000000\n"
                     "gate g first\nlet a:7..\ngate h first\nlet a:7.. c:!1000000000000\nlet a:7.. b:!" + "1" * 32)
        self.assertEqual(differs(house, "g", "h"), (7, "1" * 32, HIGH))
        self.assertEqual(many_differ(house, "g", "h"), HIGH - 6)


class Refused(unittest.TestCase):
    def test_no_gate(self):
        house = house_with("gate a first\nlet\ngate b narrow\npass a\nrefuse")
        before = house.plain()
        for name in ["", "zed", "A", "who", "crew", "ab", ("a",), ["a"]] + odd_things() + odd_lists() + odd_numbers():
            for ask in ONE_GATE:
                self.no_gate(ask, house, name)
            for ask in TWO_GATES:
                self.no_gate(ask, house, "a", name)
                self.no_gate(ask, house, name, "a")
                self.no_gate(ask, house, name, name)
        self.assertEqual(house.plain(), before)

    def no_gate(self, ask, *things):
        with self.assertRaises(NoGate) as caught:
            ask(*things)
        self.assertIs(type(caught.exception), NoGate)

    def test_no_gate_ahead_of_too_much(self):
        house = house_with("gate a first" + SIX + "\ngate b first\npass a\npass a\ngate c first\nlet")
        for ask in TWO_GATES:
            for name in ("zed", None, Thorny()):
                for good in ("a", "b", "c"):
                    self.no_gate(ask, house, name, good)
                    self.no_gate(ask, house, good, name)
        for ask in ONE_GATE:
            self.no_gate(ask, house, "zed")

    def test_too_much_of_one(self):
        house = house_with("gate a first" + SIX + "\ngate b first\npass a\npass a\ngate c first\nlet")
        for ask in ONE_GATE:
            self.too_much(ask, house, "b")
        for ask in TWO_GATES:
            for one, other in (("b", "c"), ("c", "b"), ("b", "b")):
                self.too_much(ask, house, one, other)

    def too_much(self, ask, *things):
        with self.assertRaises(TooMuch) as caught:
            ask(*things)
        self.assertIs(type(caught.exception), TooMuch)

    def test_too_much_of_two_together(self):
        house = house_with("gate a first" + FIVE + "\ngate b refusals" + FIVE + "\ngate c narrow" + SIX + "\ngate d first\npass c")
        for ask in TWO_GATES:
            for one, other in (("a", "b"), ("b", "a"), ("a", "a"), ("b", "b")):
                ask(house, one, other)
            for one, other in (("a", "c"), ("c", "a"), ("b", "d"), ("c", "c"), ("c", "d"), ("d", "d")):
                self.too_much(ask, house, one, other)
        for name in "abcd":
            for ask in ONE_GATE:
                ask(house, name)

    def test_rules_without_any_asking_count_too(self):
        house = house_with("gate a first\n" + "let many:!..\n" * 5 + "gate b first\n" + "let\n" * 6)
        self.too_much(differs, house, "a", "b")
        self.too_much(differs, house, "b", "b")
        self.assertIsNone(differs(house, "a", "a"))

    def test_nothing_else_is_refused_of_two_gates(self):
        marks = ["field " + name + " marks a b c d e" for name in "klmn"]
        rules = ["let" + "".join(f" {name}:+{mark}" for name in "klmn") for mark in "abcde"]
        house = read("\n".join(marks + ["gate one first"] + rules + ["gate other first"] + rules[:0:-1]))
        one, other = word_table(house, "one"), word_table(house, "other")
        self.assertGreater(len(one.tests()) * len(other.tests()), 4000)
        self.too_much(combined, one, other, lambda here, there: None)
        # Only the first mark alone in some field, or with marks that are not in all fields, tells them apart.
        self.assertEqual(differs(house, "one", "other"), (("a",), ("a",), ("a",), ("a",)))
        many = many_differ(house, "one", "other")
        self.assertEqual(many, counted(house, "one")[0] - counted(house, "other")[0])
        told = woven(house, "one", "other", lambda here, there: (here, there))
        self.assertEqual(whole(told), whole(pair_table(house, "one", "other")))


class TheAskersOwn(unittest.TestCase):
    def test_told_lists(self):
        house = house_with("gate a first" + FIVE + "\ngate b first\npass a many:1..")
        for ask in (lambda: word_table(house, "a"), lambda: way_table(house, "b"), lambda: pair_table(house, "a", "b"),
                    lambda: woven(house, "a", "b", lambda one, other: (one, other))):
            table, before = ask(), whole(ask())
            table.tests().clear()
            table.mosts().clear()
            table.tests().reverse()
            self.assertEqual(whole(table), before)
            self.assertEqual(whole(ask()), before)

    def test_a_worker_that_asks_itself(self):
        house = house_with("gate a first" + FIVE + "\ngate b first\nlet many:1")
        told = woven(house, "a", "b", lambda one, other: counted(house, "a"))
        self.assertEqual(told.top(), ("leaf", counted(house, "a")))

    def test_good_behind_each_refusal(self):
        house = house_with("gate a first" + SIX + "\ngate b first\npass a\npass a\ngate c first\npass a many:1")
        before = counted(house, "a"), whole(way_table(house, "c")), answered(house, "b", ("dan", 5))
        for ask in TWO_GATES:
            self.assertRaises(TooMuch, ask, house, "a", "c")
            self.assertRaises(NoGate, ask, house, "a", "zed")
        for ask in ONE_GATE:
            self.assertRaises(TooMuch, ask, house, "b")
        self.assertEqual((counted(house, "a"), whole(way_table(house, "c")), answered(house, "b", ("dan", 5))), before)


class Files(unittest.TestCase):
    def test_defined_in_this_file(self):
        for one in (word_table, way_table, pair_table, differs, many_differ, counted, woven):
            self.assertEqual(one.__module__, gates.__name__)
