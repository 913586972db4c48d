"""What the document promises over the whole program: nothing handed in is changed or kept, what is told is the asker's own."""

import copy
import importlib
import random
import unittest

from gatewright import errors
from gatewright.atoms import Atom, atom_of, condition_set
from gatewright.book import Book
from gatewright.changes import change
from gatewright.desk import answer, play
from gatewright.errors import BadAsking, BadSet, BadValue, BadWish, GateError, NoRule, NoVersion, TooMuch
from gatewright.fields import Field, field_of
from gatewright.folk import Folk
from gatewright.gates import counted, differs, many_differ, pair_table, way_table, word_table, woven
from gatewright.house import House, house_of
from gatewright.needs import lean, meeting, need_shown
from gatewright.reading import gate_read, read
from gatewright.reasons import reason, unlike
from gatewright.sets import cut, has, joined, least, less, need_set, parts, set_of, size, turned
from gatewright.showing import gate_shown, shown
from gatewright.tables import Table, made
from gatewright.tablework import changed, combined, first_with, fixed, leaves, many_with
from gatewright.walking import answered, asked, flat
from tests.chances import KINDS, house_by_chance

TEXT = """field who names ann bob cy
field how marks read write
field many number 9
group who crew cy ann
group who top crew bob
gate door first
let who:crew how:+read
refuse many:5..
gate yard refusals
pass door many:!3
let many:5 who:top
gate lock narrow
let
refuse who:ann"""
ASKING = ("cy", ("read",), 4)
BOXES = [(((0, 4),), ((0, 2),)), (((3, 9),), ((1, 5),)), (((4, 4),), ((0, 9),))]
LISTED = {
    "sets": "need_set set_of joined cut less turned has size least parts", "fields": "field_of", "atoms": "atom_of condition_set",
    "folk": "", "house": "house_of", "reading": "read gate_read", "showing": "shown gate_shown", "walking": "asked answered flat",
    "tables": "made", "tablework": "combined changed fixed leaves first_with many_with",
    "gates": "word_table way_table pair_table differs many_differ counted woven", "needs": "need_shown meeting lean",
    "reasons": "unlike reason", "changes": "change", "book": "", "desk": "answer play",
}
METHODS = {
    Field: "plain called most number_of value_of", Atom: "plain text set_in", House: "plain fields folk gates gate numbers asking box with_gate",
    Folk: "people put take in_it groups_of straight groups", Table: "mosts top tests leaf", Book: "many house put take answered since",
}


def plain_of(thing):
    """What a thing tells of itself, as plain values."""
    if isinstance(thing, Table):
        return ("table", thing.mosts(), thing.top(), thing.tests())
    if isinstance(thing, House):
        return ("house", thing.plain(), [plain_of(thing.folk(field.called())) for field in thing.fields()])
    if isinstance(thing, Folk):
        return ("folk", thing.people(), [(group, thing.straight(group)) for group in thing.groups()])
    if isinstance(thing, Book):
        return ("book", [plain_of(thing.house(version)) for version in range(thing.many())])
    if isinstance(thing, (Field, Atom)):
        return ("plain", thing.plain())
    if isinstance(thing, (list, tuple)):
        return (thing.__class__.__name__, [plain_of(one) for one in thing])
    return repr(thing)


def spoiled(thing):
    """Does to a told thing whatever can be done to it by what the interface lists."""
    if isinstance(thing, list):
        for one in thing:
            spoiled(one)
        thing.reverse()
        thing.append("spoiled")
        thing[0] = None
        thing.clear()
    elif isinstance(thing, tuple):
        for one in thing:
            spoiled(one)
    elif isinstance(thing, Folk):
        spoiled(thing.people())
        people = thing.people()
        for group in thing.groups():
            for member in thing.straight(group):
                thing.take(group, member)
        thing.put("spoiled", people[0])
    elif isinstance(thing, House):
        for told in (thing.fields(), thing.gates(), [thing.folk(field.called()) for field in thing.fields()]):
            spoiled(told)
        thing.with_gate(("spoiled", "first", ()))
    elif isinstance(thing, Table):
        spoiled(thing.mosts())
        spoiled(thing.tests())
    elif isinstance(thing, Book):
        spoiled([thing.house(version) for version in range(thing.many())])


class Things:
    """Things to ask, and each way to ask them that hands back something."""

    def __init__(self):
        self.house = read(TEXT)
        self.folk = self.house.folk("who")
        self.book = Book(TEXT)
        self.book.put("gate yard first\npass door\nlet many:1")
        self.table = made([9, 9], BOXES, tuple)
        self.other = made([9, 9], BOXES[1:], len)
        self.fields = [field_of(plain) for plain in self.house.plain()[0]]

    def kept(self):
        return [plain_of(one) for one in (self.house, self.folk, self.book, self.table, self.other, self.fields)]

    def of_sets(self):
        one, other = ((0, 3), (7, 9)), ((2, 8),)
        return [lambda: need_set(9, one), lambda: set_of(9, [(4, 5), (0, 3)]), lambda: joined(one, other), lambda: cut(one, other),
                lambda: less(one, other), lambda: less(one, ()), lambda: joined(one, ()), lambda: turned(9, one), lambda: has(one, 3),
                lambda: size(one), lambda: least(one), lambda: parts(9, [one, other])]

    def of_houses(self):
        house, folk = self.house, self.folk
        asks = [lambda: [field.plain() for field in self.fields], lambda: [field.value_of(1) for field in self.fields],
                lambda: self.fields[1].number_of(("write",)), lambda: atom_of(("name", "top")), lambda: atom_of(("marks", ("read",), ())),
                lambda: atom_of(("name", "top")).set_in(self.fields[0], folk), lambda: atom_of(("name", "top")).text(self.fields[0]),
                lambda: condition_set(self.fields[0], folk, True, (("name", "crew"),)), folk.people, folk.groups,
                lambda: folk.in_it("top"), lambda: folk.groups_of("cy"), lambda: folk.straight("crew")]
        return asks + [house.plain, house.fields, lambda: house.folk("who"), house.gates, lambda: house.gate("yard"),
                       lambda: house.numbers(ASKING), lambda: house.asking((2, 1, 4)), lambda: house.box(()),
                       lambda: house.with_gate(("new", "first", (("pass", "lock", ()),))), lambda: house_of(house.plain()),
                       lambda: read(TEXT), lambda: gate_read(house, "gate new first\npass lock", ["lock"]), lambda: shown(house),
                       lambda: gate_shown(house, house.gate("yard"))]

    def of_gates(self):
        house = self.house
        return [lambda: asked(house, "yard"), lambda: answered(house, "yard", ASKING), lambda: flat(house, "yard"),
                lambda: word_table(house, "yard"), lambda: way_table(house, "yard"), lambda: pair_table(house, "yard", "lock"),
                lambda: differs(house, "yard", "lock"), lambda: many_differ(house, "yard", "lock"), lambda: counted(house, "yard"),
                lambda: woven(house, "yard", "lock", lambda one, other: (one, other)), lambda: need_shown(house, "yard", 1),
                lambda: meeting(house, "yard", 1), lambda: lean(house, "yard"), lambda: unlike(house, "yard", ASKING, ["many"]),
                lambda: reason(house, "yard", ASKING), lambda: change(house, "yard", [(ASKING, "refuse"), (("ann", (), 0), "let")])]

    def of_tables(self):
        table, other = self.table, self.other
        return [table.mosts, table.top, table.tests, lambda: table.leaf((4, 1)), lambda: made([9, 9], BOXES, tuple),
                lambda: combined(table, other, lambda here, there: (here, there)), lambda: changed(table, len),
                lambda: fixed(table, 0, 4), lambda: leaves(table), lambda: first_with(table, lambda leaf: leaf == (0, 1)),
                lambda: many_with(table, lambda leaf: leaf == (0, 1))]

    def of_books(self):
        book = self.book
        return [book.many, book.house, lambda: book.house(0), lambda: book.answered("yard", ASKING), lambda: book.answered("yard", ASKING, 0),
                lambda: book.since("yard", 0, 1), lambda: answer(book, "since yard 0"), lambda: answer(book, "lean yard"),
                lambda: play(TEXT, ["put gate lock first", "versions", "count lock"]), lambda: Book(TEXT)]

    def asks(self):
        return self.of_sets() + self.of_houses() + self.of_gates() + self.of_tables() + self.of_books()


class TheAskersOwn(unittest.TestCase):
    def test_whatever_is_told(self):
        things = Things()
        before = things.kept()
        for at, ask in enumerate(things.asks()):
            with self.subTest(at=at):
                told, want = ask(), plain_of(ask())
                self.assertEqual(plain_of(told), want)
                other = ask()
                spoiled(other)
                self.assertEqual(plain_of(told), want)
                self.assertEqual(plain_of(ask()), want)
                self.assertEqual(things.kept(), before)

    def test_nothing_asked_later_changes_it(self):
        things = Things()
        told = [ask() for ask in things.asks()]
        before = plain_of(told)
        for ask in things.asks():
            spoiled(ask())
        self.assertEqual(plain_of(told), before)

    def test_nothing_done_later_changes_it(self):
        things = Things()
        told = [ask() for ask in things.asks()]
        before = plain_of(told)
        things.folk.put("crew", "bob")
        things.folk.take("top", "crew")
        things.folk.put("more", "ann")
        things.book.put("gate door first\nrefuse")
        things.book.take("lock")
        self.assertEqual(plain_of(told), before)
        self.assertEqual(things.book.house(0).plain(), read(TEXT).plain())

    def test_two_of_one_text_are_two(self):
        one, other = Things(), Things()
        one.folk.put("crew", "bob")
        one.book.put("gate lock first")
        self.assertEqual(plain_of(other.folk), plain_of(Things().folk))
        self.assertEqual(plain_of(other.book), plain_of(Things().book))

    def test_lists_alone_can_be_changed(self):
        # What is told within is made of tuples, texts and numbers, so that nothing of it is shared.
        def within(thing):
            if isinstance(thing, (list, tuple)):
                for one in thing:
                    self.assertNotIsInstance(one, (list, dict, set))
                    within(one)

        for ask in Things().asks():
            self.assertNotIsInstance(ask(), (dict, set))
            within(ask())


class HandedIn(unittest.TestCase):
    """Each list that is handed in stays as it was, and may be changed behind."""

    def checked(self, ask, *lists):
        before = copy.deepcopy(lists)
        told = ask(*lists)
        self.assertEqual(lists, before)
        want = plain_of(told)
        for one in lists:
            one.reverse()
            one.clear()
            one.append("spoiled")
        self.assertEqual(plain_of(told), want)
        return told

    def test_lists(self):
        things = Things()
        house = things.house
        self.checked(lambda pairs: set_of(9, pairs), [(3, 5), (0, 1), (4, 8)])
        self.checked(lambda some: parts(9, some), [((0, 3),), ((2, 8),), ()])
        self.checked(Folk, ["ann", "bob", "cy"])
        self.checked(lambda names: gate_read(house, "gate new first\npass lock\npass door", names), ["door", "lock"])
        self.checked(lambda mosts, boxes: made(mosts, boxes, tuple), [9, 9], list(BOXES))
        self.checked(lambda names: unlike(house, "yard", ASKING, names), ["many", "who"])
        self.checked(lambda wishes: change(house, "yard", wishes), [(ASKING, "refuse"), (("ann", (), 0), "let")])
        self.checked(lambda lines: play(TEXT, lines), ["versions", "count lock", "take lock"])
        folk = self.checked(Folk, ["ann", "bob"])
        folk.put("crew", "bob")
        self.assertEqual((folk.people(), folk.in_it("crew")), (["ann", "bob"], ["bob"]))
        table = self.checked(lambda mosts, boxes: made(mosts, boxes, len), [9, 9], list(BOXES))
        self.assertEqual((table.mosts(), table.leaf((4, 1))), ([9, 9], 3))

    def test_things(self):
        things = Things()
        before = things.kept()
        for ask in things.asks():
            ask()
        self.assertEqual(things.kept(), before)

    def test_a_folk_handed_to_an_atom(self):
        things = Things()
        atom = atom_of(("name", "top"))
        one = atom.set_in(things.fields[0], things.folk)
        things.folk.take("top", "bob")
        self.assertEqual((one, atom.set_in(things.fields[0], things.folk)), (((0, 2),), ((0, 0), (2, 2))))
        self.assertEqual(things.house.folk("who").in_it("top"), ["ann", "bob", "cy"])


class NoWholeNumbers(unittest.TestCase):
    def test_true_and_false(self):
        house, book = read(TEXT), Book(TEXT)
        book.put("gate yard first")
        for truth in (True, False):
            for thing in (((truth, 3),), ((0, truth),), ((truth, truth),)):
                self.assertRaises(BadSet, need_set, 9, thing)
                self.assertRaises(BadSet, set_of, 9, list(thing))
            for field in house.fields() + [field_of(("at", "clock", None)), field_of(("b", "bits", 3)), field_of(("t", "tree", ("a",)))]:
                self.assertRaises(BadValue, field.number_of, truth)
                self.assertRaises(BadValue, field.value_of, truth)
            asking = ("cy", (), truth)
            for ask in (lambda: house.numbers(asking), lambda: answered(house, "yard", asking), lambda: reason(house, "yard", asking),
                        lambda: unlike(house, "yard", asking, []), lambda: book.answered("yard", asking)):
                with self.assertRaises(BadAsking) as caught:
                    ask()
                self.assertEqual(caught.exception.place, 2)
            self.assertRaises(BadWish, change, house, "yard", [(asking, "let")])
            self.assertRaises(NoRule, need_shown, house, "yard", truth)
            self.assertRaises(NoRule, meeting, house, "yard", truth)
            self.assertRaises(NoVersion, book.house, truth)
            self.assertRaises(NoVersion, book.answered, "yard", ASKING, truth)
            self.assertRaises(NoVersion, book.since, "yard", truth, 0)
            self.assertRaises(NoVersion, book.since, "yard", 0, truth)
            self.assertEqual(answer(book, "ask yard cy - " + str(truth)), "refused asking")
            self.assertEqual(answer(book, "since yard " + str(truth)), "refused version")
            self.assertEqual(answer(book, truth), "refused line")

    def test_what_is_told(self):
        house = read(TEXT)
        numbers = [counted(house, "yard")[0], many_differ(house, "yard", "lock"), lean(house, "yard")[0], asked(house, "yard")[0], Book(TEXT).many(),
                   many_with(made([9], [], len), lambda leaf: True), first_with(made([9], [], len), lambda leaf: True)[0], size(((0, 3),))]
        self.assertEqual([number.__class__ for number in numbers], [int] * len(numbers))


class Refusals(unittest.TestCase):
    def test_what_is_refused_changes_nothing(self):
        things = Things()
        before = things.kept()
        house, book, folk = things.house, things.book, things.folk
        wrong = [
            lambda: need_set(9, ((0, 1), (2, 3))), lambda: set_of(9, [(3, 10)]), lambda: things.fields[0].number_of("crew"),
            lambda: folk.put("ann", "bob"), lambda: folk.put("new", "zed"), lambda: folk.put("crew", "top"), lambda: folk.put("new", "new"),
            lambda: folk.take("crew", "bob"), lambda: folk.in_it("zed"), lambda: folk.straight("ann"), lambda: house.gate("zed"),
            lambda: house.numbers(()), lambda: read("x"), lambda: gate_read(house, "gate new first\npass lock", []),
            lambda: asked(house, "zed"), lambda: answered(house, "yard", ()), lambda: flat(house, "zed"), lambda: word_table(house, "zed"),
            lambda: woven(house, "yard", "zed", len), lambda: need_shown(house, "yard", 2), lambda: lean(house, "zed"),
            lambda: unlike(house, "yard", (), []), lambda: reason(house, "zed", ASKING), lambda: change(house, "yard", []),
            lambda: book.house(2), lambda: book.put("gate door first\npass lock"), lambda: book.take("door"), lambda: book.take("zed"),
            lambda: book.answered("yard", ASKING, 2), lambda: book.since("yard", 0, None), lambda: Book("x"), lambda: play("x", [])]
        for at, ask in enumerate(wrong):
            with self.subTest(at=at):
                self.assertRaises(GateError, ask)
                self.assertEqual(things.kept(), before)

    def test_too_much_changes_nothing(self):
        five = "\nlet who:ann\nrefuse many:5\nlet who:bob many:1..3\nlet\nrefuse"
        text = TEXT + "\ngate six first" + five + "\nlet\ngate much first\npass six\npass six"
        house, book = read(text), Book(text)
        before = plain_of(house), plain_of(book)
        asks = [lambda: flat(house, "much"), lambda: word_table(house, "much"), lambda: way_table(house, "much"), lambda: counted(house, "much"),
                lambda: pair_table(house, "six", "six"), lambda: differs(house, "six", "six"), lambda: many_differ(house, "six", "six"),
                lambda: woven(house, "six", "six", max), lambda: need_shown(house, "much", 0), lambda: meeting(house, "much", 0),
                lambda: lean(house, "much"), lambda: unlike(house, "much", ASKING, []), lambda: reason(house, "much", ASKING),
                lambda: change(house, "much", [(ASKING, "let")]), lambda: book.since("six", 0, 0)]
        for ask in asks:
            self.assertRaises(TooMuch, ask)
            self.assertEqual((plain_of(house), plain_of(book)), before)
        self.assertEqual(answered(house, "much", ASKING), ("let", (("much", 0), ("six", 3))))
        self.assertEqual(book.answered("much", ASKING), ("let", (("much", 0), ("six", 3))))


class OneHouse(unittest.TestCase):
    def test_each_part_tells_the_same_of_a_gate(self):
        """What several functions tell of one gate holds together."""
        chance = random.Random(131)
        for _ in range(60):
            house = house_of(house_by_chance(chance, KINDS, 2, 2, 3))
            for name in house.gates():
                try:
                    words, ways = word_table(house, name), way_table(house, name)
                except TooMuch:
                    continue
                self.assertEqual(sum(counted(house, name)), many_with(words, lambda leaf: True))
                kept = lean(house, name)
                for place in range(len(house.gate(name)[2])):
                    if meeting(house, name, place) is None:
                        self.assertIsNone(need_shown(house, name, place))
                        self.assertNotIn(place, kept)
                plain = house.gate(name)
                if plain[1] == "first":
                    leaner = house.with_gate(("lean", "first", tuple(plain[2][place] for place in kept)))
                    self.assertEqual(plain_of(word_table(leaner, "lean")), plain_of(words))
                told = first_with(ways, lambda way: way is not None)
                if told is not None:
                    asking = house.asking(told)
                    self.assertEqual(answered(house, name, asking), (words.leaf(told), ways.leaf(told)))
                    left = reason(house, name, asking)
                    self.assertIsNone(unlike(house, name, asking, left))
                    self.assertEqual(change(house, name, [(asking, words.leaf(told))]), [])
                    other = "let" if words.leaf(told) == "refuse" else "refuse"
                    rules = tuple(change(house, name, [(asking, other)]))
                    turned_over = house.with_gate(("turn", "first", rules + (("pass", name, ()),)))
                    numbers = [turned_over.numbers(asking)]
                    self.assertEqual(numbers, [told])
                    self.assertEqual(answered(turned_over, "turn", asking)[0], other)


class Interface(unittest.TestCase):
    def test_listed_names(self):
        for name, listed in LISTED.items():
            module = importlib.import_module("gatewright." + name)
            for one in listed.split():
                self.assertEqual(getattr(module, one).__module__, "gatewright." + name)
                self.assertTrue(callable(getattr(module, one)))

    def test_listed_methods(self):
        for one, listed in METHODS.items():
            for method in listed.split():
                self.assertIn(method, vars(one))
                for below in one.__subclasses__():
                    self.assertIn(method, vars(below))

    def test_errors_are_refusals(self):
        for name in ("BadText", "BadSet", "BadValue", "BadAsking", "NoGate", "NoRule", "TooMuch", "BadWish", "NoName", "Ring", "NoVersion", "InUse"):
            self.assertEqual(getattr(errors, name).__bases__, (GateError,))
