import itertools
import random
import unittest

from gatewright import changes
from gatewright.changes import change
from gatewright.errors import BadWish, NoGate, TooMuch
from gatewright.house import house_of
from gatewright.reading import read
from gatewright.showing import gate_shown, shown
from gatewright.walking import answered, flat
from tests.chances import KINDS, great_house_by_chance, house_by_chance
from tests.looks import askings_of, atom_has, rule_holds, value_at
from tests.odd import Thorny, odd_lists, odd_numbers, odd_things

HIGH = 10 ** 12
WORDS = {"names": "name", "tree": "path", "number": "from", "bits": "first", "marks": "marks", "clock": "clock"}
FIVE = "\nlet who:ann\nrefuse many:5\nlet who:bob many:1..3\nlet\nrefuse"
SIX = FIVE + "\nlet who:!crew"
FIELDS = """field who names ann bob cy dan
field many number 9
group who crew cy ann
"""


def house_with(text):
    return read(FIELDS + text)


def with_change(house, gate, rules):
    """The house with a gate that asks the rules ahead of the gate."""
    return house.with_gate(("xchange", "first", tuple(rules) + (("pass", gate, ()),)))


def parted(things):
    """All ways to part some things into groups."""
    if not things:
        yield []
        return
    first, rest = things[0], things[1:]
    for groups in parted(rest):
        yield [[first]] + groups
        for at in range(len(groups)):
            yield groups[:at] + [[first] + groups[at]] + groups[at + 1:]


class Case(unittest.TestCase):
    def word(self, house, gate, asking):
        return answered(house, gate, asking)[0]

    def box_of(self, group):
        """All askings that have in each field a value of one of the group's."""
        return list(itertools.product(*[sorted(set(column), key=repr) for column in zip(*group)]))

    def fewest(self, house, gate, wishes):
        """How few rules can be: the fewest groups of wishes, whose boxes have askings that come out so alone."""
        wanted = dict(wishes)
        words = {}

        def out(asking):
            if asking not in words:
                words[asking] = wanted.get(asking) or self.word(house, gate, asking)
            return words[asking]

        left = [(asking, word) for asking, word in wishes if self.word(house, gate, asking) != word]
        best = len(left)
        for groups in parted(left):
            if len(groups) < best and all(
                    len({word for _, word in group}) == 1
                    and all(out(asking) == group[0][1] for asking in self.box_of([asking for asking, _ in group]))
                    for group in groups):
                best = len(groups)
        return best

    def formed(self, house, rules, wishes):
        """The rules' form."""
        fields, groups, _ = house.plain()
        self.assertIs(type(rules), list)
        for rule in rules:
            self.assertEqual([type(one) for one in rule], [str, type(None), tuple])
            self.assertIn(rule[0], ("let", "refuse"))
            self.assertEqual([name for name, _, _ in rule[2]], [field[0] for field in fields])
            for place, (field, (_, turned, atoms)) in enumerate(zip(fields, rule[2])):
                self.assertIs(turned, False)
                self.assertIs(type(atoms), tuple)
                self.assertTrue(1 <= len(atoms) <= 5)
                self.assertEqual(len(set(atoms)), len(atoms))
                values = {asking[place] for asking, _ in wishes}
                for atom in atoms:
                    self.assertIs(type(atom), tuple)
                    self.assertEqual(atom[0], WORDS[field[1]])
                    self.assertEqual(len([value for value in values if self.alone(field, groups, atom, value)]), 1)
        # What is told is also what a text can write and read again.
        plain = ("xchange", "first", tuple(rules))
        text = gate_shown(house, plain)
        head = "\n".join(line for line in shown(house).split("\n") if line.split(" ")[0] in ("field", "group"))
        self.assertEqual(read(head + "\n" + text).plain()[2], (plain,))

    def alone(self, field, groups, atom, value):
        """Tells whether an atom has a value, and no other one of its field."""
        if not atom_has(field, groups, atom, value):
            return False
        box = house_of(((field,), tuple(one for one in groups if one[0] == field[0]), (("a", "first", ()),))).box(
            ((field[0], False, (atom,)),))
        return sum(high - low + 1 for low, high in box[0]) == 1

    def checked(self, house, gate, wishes, askings):
        handed = list(wishes)
        rules = change(house, gate, handed)
        self.assertEqual(handed, wishes)
        handed.clear()
        self.formed(house, rules, wishes)
        wanted, other = dict(wishes), with_change(house, gate, rules)
        near = self.box_of([asking for asking, _ in wishes])
        for asking in near + list(askings):
            before = self.word(house, gate, asking)
            self.assertEqual(self.word(other, "xchange", asking), wanted.get(asking, before))
            held = {rule[0] for rule in rules if rule_holds(house.plain(), rule, asking)}
            self.assertLessEqual(len(held), 1)
        self.assertEqual(len(rules), self.fewest(house, gate, wishes))
        return rules


class ByChance(Case):
    def wishes_near(self, chance, house, many):
        """Wishes whose values are few, so that boxes of several can be."""
        columns = []
        for field in house.fields():
            most = field.most()
            numbers = {chance.choice((0, most, chance.randint(0, most))) for _ in range(chance.choice((1, 2, 3, 5)))}
            columns.append([value_at(field.plain(), number) for number in numbers])
        askings = list(itertools.product(*columns))
        some = chance.sample(askings, min(many, len(askings)))
        chosen = chance.choice((("let",), ("refuse",), ("let", "refuse")))
        return [(asking, chance.choice(chosen)) for asking in some]

    def gate_of(self, chance, house):
        good = []
        for name in house.gates():
            try:
                flat(house, name)
                good.append(name)
            except TooMuch:
                pass
        return chance.choice(good) if good else None

    def test_small_houses(self):
        chance = random.Random(101)
        seen = set()
        for _ in range(800):
            house = house_of(house_by_chance(chance, KINDS[:5], 4, 2, 3))
            gate = self.gate_of(chance, house)
            if gate:
                wishes = self.wishes_near(chance, house, chance.randint(1, 5))
                every = askings_of(house.plain())
                rules = self.checked(house, gate, wishes, every if len(every) < 150 else chance.sample(every, 150))
                seen.add((len(wishes), len(rules)))
                chance.shuffle(wishes)
                self.assertEqual(len(change(house, gate, wishes)), len(rules))
        for pair in ((5, 0), (5, 1), (5, 2), (5, 3), (5, 4), (5, 5), (1, 0), (1, 1), (3, 1), (4, 1), (4, 2), (2, 1)):
            self.assertIn(pair, seen)

    def test_great_houses(self):
        chance = random.Random(102)
        for _ in range(150):
            house = house_of(great_house_by_chance(chance, 4))
            gate = self.gate_of(chance, house)
            if gate:
                wishes = self.wishes_near(chance, house, chance.randint(1, 5))
                askings = [tuple(value_at(field.plain(), chance.randint(0, field.most())) for field in house.fields())
                           for _ in range(20)]
                self.checked(house, gate, wishes, askings)

    def test_as_few_as_any_boxes_of_the_values_can_be(self):
        chance = random.Random(103)
        for _ in range(250):
            house = house_of(house_by_chance(chance, KINDS[:5], 2, 2, 3))
            gate = self.gate_of(chance, house)
            if gate:
                wishes = self.wishes_near(chance, house, chance.randint(2, 5))
                self.assertEqual(len(change(house, gate, wishes)), self.fewest_boxes(house, gate, wishes))

    def fewest_boxes(self, house, gate, wishes):
        """How few rules can be, of all boxes made of the wishes' values."""
        wanted = dict(wishes)
        out = {asking: wanted.get(asking) or self.word(house, gate, asking)
               for asking in self.box_of([asking for asking, _ in wishes])}
        left = {asking for asking, word in wishes if self.word(house, gate, asking) != word}
        columns = [sorted(set(column), key=repr) for column in zip(*[asking for asking, _ in wishes])]
        choices = [[some for many in range(1, len(column) + 1) for some in itertools.combinations(column, many)]
                   for column in columns]
        covers = set()
        for sets in itertools.product(*choices):
            box = set(itertools.product(*sets))
            if len({out[asking] for asking in box}) == 1 and out[next(iter(box))] is not None:
                covers.add(frozenset(box & left))
        reached, many = {frozenset()}, 0
        while frozenset(left) not in reached:
            reached, many = {one | cover for one in reached for cover in covers}, many + 1
        return many


class Ordinary(Case):
    house = house_with("gate a first\nlet who:ann|bob\nrefuse many:5..\ngate b refusals\npass a\nlet who:dan")

    def test_one_wish(self):
        self.assertEqual(change(self.house, "a", [(("cy", 3), "let")]), [
            ("let", None, (("who", False, (("name", "cy"),)), ("many", False, (("from", 3, 3),))))])
        self.assertEqual(change(self.house, "b", [(("ann", 3), "refuse")]), [
            ("refuse", None, (("who", False, (("name", "ann"),)), ("many", False, (("from", 3, 3),))))])

    def test_wishes_that_have_their_words(self):
        self.assertEqual(change(self.house, "a", [(("ann", 3), "let")]), [])
        self.assertEqual(change(self.house, "a", [(("cy", 5), "refuse"), (("bob", 9), "let"), (("ann", 0), "let")]), [])

    def test_one_box_of_two(self):
        rules = self.checked(self.house, "a", [(("cy", 3), "let"), (("dan", 3), "let")], askings_of(self.house.plain()))
        self.assertEqual(len(rules), 1)
        # Of the box of these two the other two askings would come out otherwise.
        rules = self.checked(self.house, "a", [(("cy", 3), "let"), (("dan", 4), "let")], askings_of(self.house.plain()))
        self.assertEqual(len(rules), 2)

    def test_a_box_with_askings_that_had_its_word_already(self):
        wishes = [(("cy", 3), "let"), (("ann", 5), "refuse"), (("cy", 4), "refuse")]
        self.assertEqual(len(self.checked(self.house, "a", wishes, [])), 3)
        house = house_with("gate a first\nlet who:ann|bob")
        wishes = [(("cy", 3), "let"), (("dan", 3), "let"), (("ann", 3), "let")]
        self.assertEqual(len(self.checked(house, "a", wishes, askings_of(house.plain()))), 1)
        house = read("field a number 1\nfield b number 1\ngate g first\nlet a:1 b:0\nlet a:0 b:1")
        self.assertEqual(len(self.checked(house, "g", [((0, 0), "let"), ((1, 1), "let")], askings_of(house.plain()))), 1)
        self.assertEqual(len(self.checked(house, "g", [((0, 0), "refuse"), ((1, 1), "refuse")], [])), 2)

    def test_a_wish_that_keeps_its_word_is_kept_out(self):
        house = read("field a number 1\nfield b number 1\ngate g first\nlet a:1 b:0\nlet a:0 b:1")
        wishes = [((0, 0), "let"), ((1, 1), "let"), ((0, 1), "refuse")]
        self.assertEqual(len(self.checked(house, "g", wishes, askings_of(house.plain()))), 3)
        wishes = [((0, 0), "let"), ((1, 1), "let"), ((0, 1), "let")]
        self.assertEqual(len(self.checked(house, "g", wishes, askings_of(house.plain()))), 1)

    def test_the_fewest_by_groups_that_are_not_the_first(self):
        # Two and two belong together, whichever come first.
        house = read("field a number 9\nfield b number 9\ngate g first")
        wishes = [((1, 1), "let"), ((2, 2), "let"), ((1, 3), "let"), ((2, 5), "let"), ((7, 7), "let")]
        for some in itertools.permutations(wishes):
            self.assertEqual(len(change(house, "g", list(some))), 3)

    def test_five_in_one(self):
        house = read("field a number 1000000000000\nfield b bits 32\nfield c clock\nfield d marks x y\ngate g narrow\nrefuse")
        wishes = [((number, "01" * 16, "07:05", ("y",)), "let") for number in (0, 3, HIGH, HIGH - 1, 17)]
        self.assertEqual(self.checked(house, "g", wishes, []), [("let", None, (
            ("a", False, (("from", 0, 0), ("from", 3, 3), ("from", 17, 17), ("from", HIGH - 1, HIGH - 1), ("from", HIGH, HIGH))),
            ("b", False, (("first", "01" * 16),)), ("c", False, (("clock", 425, 425),)),
            ("d", False, (("marks", ("y",), ("x",)),))))])
        wishes = [((5, "1" * 32, "23:59", ()), "let"), ((5, "0" * 32, "00:00", ("x", "y")), "let")]
        self.assertEqual(len(self.checked(house, "g", wishes, [])), 2)

    def test_trees_by_their_paths(self):
        house = read("field a tree a a/b a/b/c\ngate g first\nrefuse")
        self.assertEqual(self.checked(house, "g", [(("a",), "let"), (("a/b",), "let")], askings_of(house.plain())),
                         [("let", None, (("a", False, (("path", "a"), ("path", "a/b"))),))])

    def test_people_whose_groups_hold_more(self):
        rules = self.checked(self.house, "a", [(("cy", 3), "let")], askings_of(self.house.plain()))
        self.assertEqual(rules[0][2][0], ("who", False, (("name", "cy"),)))

    def test_list_is_the_askers_own(self):
        wishes = [(("cy", 3), "let"), (("dan", 4), "let")]
        told = change(self.house, "a", wishes)
        before = list(told)
        wishes.clear()
        self.assertEqual(told, before)
        change(self.house, "a", [(("cy", 3), "let"), (("dan", 4), "let")]).clear()
        told.clear()
        self.assertEqual(change(self.house, "a", [(("cy", 3), "let"), (("dan", 4), "let")]), before)
        self.assertEqual(self.house.gates(), ["a", "b"])


class Refused(Case):
    house = house_with("gate a first" + SIX + "\ngate b first\npass a\npass a\ngate c first\nlet who:ann")
    good = [(("ann", 1), "let")]

    def refused(self, place, wishes, gate="c"):
        before = self.house.plain()
        with self.assertRaises(BadWish) as caught:
            change(self.house, gate, wishes)
        self.assertIs(type(caught.exception), BadWish)
        self.assertEqual(caught.exception.place, place)
        self.assertIs(type(caught.exception.place), int)
        self.assertEqual(self.house.plain(), before)

    def test_no_gate(self):
        for name in ["", "zed", "A", "who", ("a",)] + odd_things() + odd_lists() + odd_numbers():
            for wishes in (self.good, [], None, [7], Thorny()):
                with self.assertRaises(NoGate) as caught:
                    change(self.house, name, wishes)
                self.assertIs(type(caught.exception), NoGate)

    def test_no_list_of_1_to_5(self):
        wish = self.good[0]
        six = [(("ann", number), "let") for number in range(6)]
        for wishes in [[], six, six + six, tuple(self.good), wish, {wish: 0}, "let", (), [None] * 6] + odd_things() + odd_numbers():
            for gate in "abc":
                self.refused(-1, wishes, gate)
        change(self.house, "c", six[:5])

    def test_the_first_that_is_none(self):
        wrong = [(), (("ann", 1),), (("ann", 1), "let", None), [("ann", 1), "let"], (("ann", 1), "none"), (("ann", 1), "Let"),
                 (("ann", 1), None), (("ann", 1), "pass"), (("ann", 1), ""), (("ann", 1), ["let"]), (("ann",), "let"),
                 (("ann", 10), "let"), (("ann", True), "let"), (("crew", 1), "let"), (["ann", 1], "let"), ("ann", "let"),
                 ("let", ("ann", 1)), (None, "refuse"), "let", ((), "let"), (("ann", 1, 1), "refuse")]
        for thing in odd_things() + odd_lists() + odd_numbers():
            wrong.extend([thing, (thing, "let"), (("ann", 1), thing), ((thing, 1), "let"), (("ann", thing), "refuse")])
        good = [(("bob", number), "refuse") for number in range(4)]
        for wish in wrong:
            for place in (0, 1, 4):
                for gate in "bc":
                    self.refused(place, good[:place] + [wish] + good[place + 1:], gate)
            self.refused(1, good[:1] + [wish, wish, None])

    def test_an_asking_that_came_ahead(self):
        one, other, third = (("ann", 1), "let"), (("ann", 1), "refuse"), (("bob", 1), "let")
        self.refused(1, [one, one])
        self.refused(1, [one, other, None])
        self.refused(2, [one, third, other])
        self.refused(2, [third, one, third, one])
        self.refused(1, [one, None, one])
        self.refused(0, [None, one, one])

    def test_bad_wish_ahead_of_too_much(self):
        self.refused(-1, [], "b")
        self.refused(1, [self.good[0], self.good[0]], "b")

    def test_too_much(self):
        for wishes in (self.good, [(("ann", 0), "let"), (("bob", 5), "refuse")]):
            with self.assertRaises(TooMuch) as caught:
                change(self.house, "b", wishes)
            self.assertIs(type(caught.exception), TooMuch)
        house = house_with("gate a first" + FIVE + "\ngate b first\npass a\npass a\ngate c first\npass b\nrefuse")
        self.assertEqual(len(flat(house, "b")), 10)
        self.assertEqual(len(self.checked(house, "b", [(("dan", 5), "let")], askings_of(house.plain()))), 1)
        # Where the gate's flat list is too long, it is refused, though the one wished has its word.
        self.assertRaises(TooMuch, change, house, "c", [(("ann", 5), "let")])


class Files(unittest.TestCase):
    def test_defined_in_this_file(self):
        self.assertEqual(change.__module__, changes.__name__)
