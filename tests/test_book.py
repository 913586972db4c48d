import random
import unittest

from gatewright import book as book_file
from gatewright.book import Book
from gatewright.errors import BadAsking, BadText, InUse, NoGate, NoVersion, TooMuch
from gatewright.house import House, house_of
from gatewright.reading import read
from gatewright.showing import gate_shown, shown
from gatewright.walking import answered, flat
from tests.chances import KINDS, gate_by_chance, great_house_by_chance, house_by_chance
from tests.lines import first_bad
from tests.looks import Looked
from tests.odd import Thorny, odd_lists, odd_numbers, odd_things

HIGH = 10 ** 12
FIELDS = """field who names ann bob cy dan
field many number 9
group who crew cy ann
"""
GATES = """gate a first
let who:ann
gate b refusals
pass a many:..5
refuse who:bob
gate c narrow
let"""
TEXT = FIELDS + GATES
FIVE = "let who:ann\nrefuse many:5\nlet who:bob many:1..3\nlet\nrefuse"
NAMES = ("door", "gate", "lock", "yard", "pass", "attic", "hatch")


def wholes(book):
    """All versions of a book as tuples."""
    return [book.house(version).plain() for version in range(book.many())]


class Case(unittest.TestCase):
    def refused(self, error, ask, *things):
        with self.assertRaises(error) as caught:
            ask(*things)
        self.assertIs(type(caught.exception), error)
        return caught.exception

    def bad_put(self, line, book, text):
        before = wholes(book)
        self.assertEqual(self.refused(BadText, book.put, text).line, line)
        self.assertEqual(wholes(book), before)


class Versions(Case):
    def test_a_new_book(self):
        book = Book(TEXT)
        self.assertEqual(book.many(), 1)
        for house in (book.house(), book.house(0), book.house(None)):
            self.assertIsInstance(house, House)
            self.assertEqual(house.plain(), read(TEXT).plain())

    def test_put_in_the_place_of_the_one_of_that_name(self):
        book = Book(TEXT)
        self.assertEqual(book.put("gate b first\nrefuse\npass a who:dan"), 1)
        self.assertEqual(book.house().gates(), ["a", "b", "c"])
        self.assertEqual(book.house().plain(), read(FIELDS + "gate a first\nlet who:ann\ngate b first\nrefuse\npass a who:dan\n"
                                                    "gate c narrow\nlet").plain())
        self.assertEqual(book.put("gate a narrow"), 2)
        self.assertEqual(book.house().gate("a"), ("a", "narrow", ()))
        self.assertEqual(book.house().gates(), ["a", "b", "c"])
        self.assertEqual(book.put("gate c first\npass a\npass b"), 3)
        self.assertEqual(book.many(), 4)
        self.assertEqual(book.house(0).plain(), read(TEXT).plain())
        self.assertEqual(book.house(1).gate("a"), book.house(0).gate("a"))

    def test_put_behind_all(self):
        book = Book(TEXT)
        self.assertEqual(book.put("gate d first\npass c\npass b who:cy"), 1)
        self.assertEqual(book.put("gate aa refusals\npass d"), 2)
        self.assertEqual(book.house().gates(), ["a", "b", "c", "d", "aa"])
        self.assertEqual(shown(book.house()), TEXT + "\ngate d first\npass c\npass b who:cy\ngate aa refusals\npass d")
        self.assertEqual(book.house(1).gates(), ["a", "b", "c", "d"])
        self.assertEqual(book.house(0).gates(), ["a", "b", "c"])

    def test_the_same_gate_makes_a_version_too(self):
        book = Book(TEXT)
        for number in (1, 2, 3):
            self.assertEqual(book.put("gate c narrow\nlet"), number)
        self.assertEqual(wholes(book), [read(TEXT).plain()] * 4)

    def test_blanks_and_remarks(self):
        book = Book(TEXT)
        self.assertEqual(book.put("\n# a new one\n  gate   d first # or so\n\n let who:ann|crew#\n#"), 1)
        self.assertEqual(book.house().gate("d"), ("d", "first", (
            ("let", None, (("who", False, (("name", "ann"), ("name", "crew"))),)),)))

    def test_take(self):
        book = Book(TEXT)
        self.assertEqual(book.take("c"), 1)
        self.assertEqual(book.house().gates(), ["a", "b"])
        self.assertEqual(book.take("b"), 2)
        self.assertEqual(book.house().gates(), ["a"])
        self.assertEqual([book.house(version).gates() for version in range(3)], [["a", "b", "c"], ["a", "b"], ["a"]])
        self.assertEqual(book.put("gate b first\npass a"), 3)
        self.assertEqual(book.put("gate a first\nrefuse"), 4)
        self.assertEqual(book.house().gates(), ["a", "b"])
        self.assertEqual(book.house().fields()[0].called(), "who")
        self.assertEqual(book.house().folk("who").in_it("crew"), ["ann", "cy"])

    def test_taken_and_put_it_stands_behind(self):
        book = Book(TEXT)
        self.assertEqual(book.put("gate b refusals"), 1)
        self.assertEqual(book.take("a"), 2)
        self.assertEqual(book.put("gate a first\npass c\npass b"), 3)
        self.assertEqual(book.house().gates(), ["b", "c", "a"])
        self.bad_put(2, book, "gate b first\npass a")

    def test_two_books_of_one_text(self):
        one, other = Book(TEXT), Book(TEXT)
        one.put("gate a first\nrefuse")
        one.put("gate d first")
        self.assertEqual((one.many(), other.many()), (3, 1))
        self.assertEqual(wholes(other), [read(TEXT).plain()])
        other.take("c")
        self.assertEqual(one.house().gates(), ["a", "b", "c", "d"])
        self.assertEqual(one.house(0).plain(), read(TEXT).plain())

    def test_houses_that_were_told_stay(self):
        book = Book(TEXT)
        told = book.house()
        told.fields().clear()
        told.folk("who").put("crew", "bob")
        told.gates().clear()
        told.with_gate(("z", "first", ()))
        book.put("gate a first\nrefuse")
        book.take("c")
        self.assertEqual(told.plain(), read(TEXT).plain())
        self.assertEqual(answered(told, "b", ("ann", 3)), ("let", (("b", 0), ("a", 0))))
        self.assertEqual(answered(book.house(), "b", ("ann", 3)), ("refuse", (("b", 0), ("a", 0))))
        # Nothing done to a house that was told is seen by the book, whatever it is.
        book.house().told = None
        book.house(0).gate_named.clear()
        self.assertEqual(book.house(0).plain(), read(TEXT).plain())
        self.assertEqual(book.answered("a", ("ann", 3), 0)[0], "let")

    def test_many_versions(self):
        book = Book("field a number 9\ngate a first")
        for number in range(1, 1201):
            self.assertEqual(book.put("gate a first\nlet a:" + str(number // 10 % 10)), number)
        self.assertEqual(book.many(), 1201)
        self.assertEqual(book.answered("a", (9,), 1099)[0], "let")
        self.assertEqual(book.since("a", 1000, 1099), (0,))

    def test_by_chance(self):
        chance = random.Random(111)
        for _ in range(60):
            plain = house_by_chance(chance, KINDS, 3, 3, 4)
            fields, groups, told = plain
            book, versions = Book(shown(house_of(plain))), [plain]
            for _ in range(12):
                gates = list(versions[-1][2])
                names = [gate[0] for gate in gates]
                if chance.random() < 0.3:
                    self.take_by_chance(chance, book, versions, gates, names)
                    continue
                name = chance.choice(NAMES)
                at = names.index(name) if name in names else len(names)
                if at == 5:
                    self.bad_put(1, book, gate_shown(book.house(), gate_by_chance(chance, name, fields, groups, names)))
                    continue
                gate = gate_by_chance(chance, name, fields, groups, names[:at])
                self.assertEqual(book.put(gate_shown(book.house(), gate)), len(versions))
                versions.append((fields, groups, tuple(gates[:at] + [gate] + gates[at + 1:])))
                self.assertEqual(book.many(), len(versions))
            self.assertEqual(wholes(book), versions)

    def take_by_chance(self, chance, book, versions, gates, names):
        name = chance.choice(names)
        passed_to = {rule[1] for gate in gates for rule in gate[2]}
        if name in passed_to or len(names) == 1:
            self.refused(InUse, book.take, name)
        else:
            self.assertEqual(book.take(name), len(versions))
            versions.append(versions[-1][:2] + (tuple(gate for gate in gates if gate[0] != name),))


class BadTexts(Case):
    def test_of_a_new_book(self):
        told = [("", 2), ("field at clock", 2), ("\n", 3), ("x", 1), (TEXT + "\nlet zed:1", 11), (TEXT + "\n\tlet", 11),
                ("field at clock\ngate a first\ngate b first\npass c", 4), ("gate a first", 1)]
        for text, line in told:
            self.assertEqual(self.refused(BadText, Book, text).line, line)
        for thing in odd_things() + odd_lists() + odd_numbers():
            self.assertEqual(self.refused(BadText, Book, thing).line, 0)

    def test_of_a_gate(self):
        book = Book(TEXT)
        told = [("", 2), ("\n\n", 4), ("# gate d first", 2), ("let", 1), ("gate", 1), ("gate d", 1), ("gate d last", 1),
                ("gate D first", 1), ("gate d first x", 1), ("\ngate abcdefghi first", 2), ("gate d first\nlet who:zed", 2),
                ("gate d first\nlet\n\nlet many:10", 4), ("gate d first\nlet who:ann who:bob", 2), ("gate d first\npass", 2),
                ("gate d first\nfield at clock", 2), ("gate d first\ngroup who top ann", 2), ("field at clock\ngate d first", 1),
                ("gate d first\nlet\t", 2), ("gate d first\n#%", 2), ("gate d first\n" + "let\n" * 9, 10),
                ("gate d first\n" + "pass a\n" * 3, 4), ("gate a first\nlet\nlets", 3)]
        for text, line in told:
            self.bad_put(line, book, text)

    def test_a_second_gate(self):
        book = Book(TEXT)
        self.bad_put(2, book, "gate d first\ngate e first")
        self.bad_put(4, book, "gate d first\nlet\n\ngate d first\nlet")
        self.bad_put(2, book, "gate a first\ngate b first")

    def test_a_gate_passes_to_gates_ahead_of_it_alone(self):
        book = Book(TEXT)
        for name, wrong in (("a", "abcd"), ("b", "bcd"), ("c", "cd"), ("d", "de")):
            for to in wrong:
                self.bad_put(3, book, "gate " + name + " first\nlet\npass " + to)
        for name, good in (("b", "a"), ("c", "ab"), ("d", "abc")):
            for to in good:
                book.put("gate " + name + " first\nlet\npass " + to)

    def test_a_sixth_gate(self):
        book = Book(TEXT)
        book.put("gate d first")
        self.assertEqual(book.put("gate e first\npass d"), 2)
        self.bad_put(1, book, "gate f first")
        self.bad_put(3, book, "\n# another one\ngate f first\nlet zed")
        self.bad_put(1, book, "lets\ngate f first")
        self.bad_put(1, book, "#\t\ngate f first")
        self.assertEqual(book.put("gate e first\npass c"), 3)
        book.take("d")
        self.assertEqual(book.put("gate f first\npass e"), 5)
        self.assertEqual(book.house().gates(), ["a", "b", "c", "e", "f"])

    def test_no_text(self):
        book = Book(TEXT)
        for thing in odd_things() + odd_lists() + odd_numbers():
            self.bad_put(0, book, thing)

    def test_lines_by_chance(self):
        chance = random.Random(112)
        rows = ["let", "refuse who:ann", "pass a", "pass b many:1", "pass c", "pass d", "let many:5..2", "let who:!crew|ann",
                "let who:zed", "", "# x", "refuse many:1 many:2", "pass", "let many:..", "gate e first", "lets"]
        bad = 0
        for _ in range(400):
            book = Book(TEXT)
            for name in chance.choice(((), ("d",), ("d", "e"))):
                book.put("gate " + name + " first\nlet")
            name, names = chance.choice("abcdef"), book.house().gates()
            at = names.index(name) if name in names else len(names)
            lines = ["gate " + name + " first"] + [chance.choice(rows) for _ in range(chance.randint(0, 9))]
            lines = [""] * chance.randint(0, 2) + lines
            fields, groups, gates = book.house().plain()
            ahead = FIELDS.rstrip("\n").split("\n")
            for gate in gates[:at]:
                ahead.extend(gate_shown(book.house(), gate).split("\n"))
            line = first_bad("\n".join(ahead + lines))
            own = [line - len(ahead)] if line else []
            # The second reader takes a second gate, a put text has one alone.
            begin = lines.index("gate " + name + " first")
            own.extend([begin + 2 + at for at, row in enumerate(lines[begin + 1:]) if row == "gate e first"])
            if own:
                bad += 1
                self.bad_put(min(own), book, "\n".join(lines))
            else:
                before = book.many()
                self.assertEqual(book.put("\n".join(lines)), before)
                self.assertEqual(gate_shown(book.house(), book.house().gate(name)),
                                 "\n".join(row for row in lines if row and not row.startswith("#")))
        self.assertGreater(bad, 50)
        self.assertLess(bad, 390)


class Take(Case):
    def test_no_gate(self):
        book = Book(TEXT)
        before = wholes(book)
        for name in ["", "zed", "A", "who", ("a",)] + odd_things() + odd_lists() + odd_numbers():
            self.refused(NoGate, book.take, name)
        book.take("c")
        self.refused(NoGate, book.take, "c")
        self.assertEqual(wholes(book)[:1], before)

    def test_in_use(self):
        book = Book(TEXT)
        self.refused(InUse, book.take, "a")
        self.assertEqual(book.many(), 1)
        book.put("gate d first\nlet\npass c")
        self.refused(InUse, book.take, "c")
        self.assertEqual(book.put("gate d first\nlet"), 2)
        self.assertEqual(book.take("c"), 3)
        book.put("gate b first")
        self.assertEqual(book.take("a"), 5)

    def test_the_only_gate(self):
        book = Book("field at clock\ngate a first")
        self.refused(InUse, book.take, "a")
        self.refused(NoGate, book.take, "b")
        book.put("gate b first\nlet")
        self.assertEqual(book.take("a"), 2)
        self.refused(InUse, book.take, "b")
        self.refused(NoGate, book.take, "a")
        self.assertEqual(book.many(), 3)


class Answered(Case):
    def test_by_versions(self):
        book = Book(TEXT)
        book.put("gate a first\nrefuse who:ann\nlet who:dan")
        book.put("gate c first\npass b")
        book.put("gate d first\npass c many:3")
        self.assertEqual(book.answered("a", ("ann", 3), 0), ("let", (("a", 0),)))
        self.assertEqual(book.answered("a", ("ann", 3), 1), ("refuse", (("a", 0),)))
        self.assertEqual(book.answered("a", ("ann", 3)), ("refuse", (("a", 0),)))
        self.assertEqual(book.answered("a", ("dan", 3), 0), (None, None))
        self.assertEqual(book.answered("c", ("dan", 3), 1), ("let", (("c", 0),)))
        self.assertEqual(book.answered("c", ("dan", 3), 2), ("let", (("c", 0), ("b", 0), ("a", 1))))
        self.assertEqual(book.answered("d", ("dan", 3), None), ("let", (("d", 0), ("c", 0), ("b", 0), ("a", 1))))
        self.refused(NoGate, book.answered, "d", ("dan", 3), 2)

    def test_much_is_answered(self):
        book = Book(FIELDS + "gate a first\n" + FIVE + "\nlet\ngate b first\npass a\npass a\n")
        self.assertEqual(book.answered("b", ("bob", 5)), ("refuse", (("b", 0), ("a", 1))))

    def test_refusals_in_order(self):
        book = Book(TEXT)
        book.put("gate d first")
        for version in [-1, 2, 10 ** 6, "0", "", True, False, (0,), [0], Thorny(), {}, b"0"] + odd_numbers():
            for gate, asking in (("a", ("ann", 1)), ("zed", ("ann", 1)), ("a", ()), (Thorny(), Thorny())):
                self.refused(NoVersion, book.answered, gate, asking, version)
        for version in (None, 0, 1):
            for gate in ("zed", None, Thorny(), ["a"]):
                self.refused(NoGate, book.answered, gate, ("zed",), version)
            for asking, place in (((), -1), (("zed", 1), 0), (("ann", True), 1)):
                self.assertEqual(self.refused(BadAsking, book.answered, "a", asking, version).place, place)
        self.refused(NoGate, book.answered, "d", ("ann", 1), 0)

    def test_each_version_by_chance(self):
        chance = random.Random(113)
        for _ in range(20):
            fields, groups, gates = plain = house_by_chance(chance, KINDS[:5], 3, 2, 4)
            book, looks = Book(shown(house_of(plain))), [Looked(plain)]
            for _ in range(3):
                at = chance.randrange(len(gates))
                names = [gate[0] for gate in gates]
                gate = gate_by_chance(chance, names[at], fields, groups, names[:at], 4)
                book.put(gate_shown(book.house(), gate))
                gates = gates[:at] + (gate,) + gates[at + 1:]
                looks.append(Looked((fields, groups, gates)))
            for name in [gate[0] for gate in gates]:
                for version, look in enumerate(looks):
                    for asking in chance.sample(look.askings, min(10, len(look.askings))):
                        self.assertEqual(book.answered(name, asking, version), look.answered(name, asking))
                        if version == len(looks) - 1:
                            self.assertEqual(book.answered(name, asking), look.answered(name, asking))


class NoVersions(Case):
    def test_whatever_is_no_version(self):
        book = Book(TEXT)
        book.put("gate d first")
        before = wholes(book)
        wrong = [-1, -2, 2, 3, "0", "1", "", (0,), [0], 10 ** 20] + odd_things() + odd_lists() + odd_numbers()
        for version in wrong:
            if version is not None:
                self.refused(NoVersion, book.house, version)
            for good in (0, 1):
                for gate in ("a", "zed", Thorny()):
                    self.refused(NoVersion, book.since, gate, version, good)
                    self.refused(NoVersion, book.since, gate, good, version)
                    self.refused(NoVersion, book.since, gate, version, version)
        self.assertEqual(wholes(book), before)

    def test_what_is_refused_makes_no_version(self):
        book = Book(TEXT)
        self.refused(BadText, book.put, "gate b first\npass b")
        self.refused(InUse, book.take, "a")
        self.refused(NoGate, book.take, "zed")
        self.refused(NoVersion, book.house, 1)
        self.assertEqual((book.many(), book.house().plain()), (1, read(TEXT).plain()))
        self.assertEqual(book.put("gate b first\npass a"), 1)


class Since(Case):
    def test_ordinary(self):
        book = Book(TEXT)
        book.put("gate a first\nlet who:ann|bob many:4..")
        book.put("gate c narrow\nlet who:!cy\nrefuse many:7")
        self.assertEqual(book.since("a", 0, 1), ("ann", 0))
        self.assertEqual(book.since("a", 1, 0), ("ann", 0))
        self.assertIsNone(book.since("a", 1, 2))
        self.assertIsNone(book.since("a", 2, 2))
        self.assertEqual(book.since("b", 0, 2), ("ann", 0))
        self.assertEqual(book.since("c", 0, 2), ("ann", 7))
        self.assertIsNone(book.since("c", 0, 1))

    def test_a_gate_that_is_passed_to(self):
        book = Book(TEXT)
        book.put("gate a first\nlet who:ann many:..5")
        self.assertIsNone(book.since("b", 0, 1))
        self.assertEqual(book.since("a", 0, 1), ("ann", 6))

    def test_words_count_not_ways(self):
        book = Book(TEXT)
        book.put("gate c first\nlet who:ann\nlet")
        self.assertIsNone(book.since("c", 0, 1))

    def test_no_gate_in_either(self):
        book = Book(TEXT)
        book.put("gate d first")
        book.take("c")
        for one, other in ((0, 1), (1, 0), (0, 0)):
            self.refused(NoGate, book.since, "d", one, other)
        for one, other in ((0, 2), (2, 0), (2, 2)):
            self.refused(NoGate, book.since, "c", one, other)
        self.assertIsNone(book.since("d", 1, 2))
        for thing in odd_things() + odd_lists():
            self.refused(NoGate, book.since, thing, 0, 0)

    def test_no_gate_in_the_other_ahead_of_too_much(self):
        book = Book(FIELDS + "gate a first\n" + FIVE + "\nlet\ngate b first")
        book.put("gate much first\npass a\npass a")
        book.take("much")
        for one, other in ((1, 0), (0, 1), (1, 2), (2, 1)):
            self.refused(NoGate, book.since, "much", one, other)
        self.refused(TooMuch, book.since, "much", 1, 1)

    def test_too_much(self):
        book = Book(FIELDS + "gate a first\n" + FIVE + "\ngate b first\npass a\npass a")
        book.put("gate a first\n" + FIVE + "\nlet")
        self.assertIsNone(book.since("a", 0, 0))
        for one, other in ((0, 1), (1, 0), (1, 1)):
            self.refused(TooMuch, book.since, "a", one, other)
            self.refused(TooMuch, book.since, "b", one, other)
            self.refused(NoGate, book.since, "zed", one, other)
        book.put("gate a first\nlet who:ann")
        self.assertEqual(book.since("a", 0, 2), ("bob", 0))
        book.put("gate c first\npass a")
        book.put("gate c first\n" + FIVE + "\npass a")
        self.assertEqual(book.since("c", 3, 4), ("bob", 0))
        self.assertEqual(len(flat(book.house(4), "c")), 6)
        self.refused(TooMuch, book.since, "c", 4, 4)
        self.assertEqual(book.many(), 5)

    def test_by_chance(self):
        chance = random.Random(114)
        for at in range(60):
            great = at % 3 == 0
            fields, groups, gates = plain = great_house_by_chance(chance) if great else house_by_chance(chance, KINDS[:5], 3, 2, 4)
            names = [gate[0] for gate in gates]
            where = chance.randrange(len(gates))
            gate = gate_by_chance(chance, names[where], fields, groups, names[:where], 3)
            book = Book(shown(house_of(plain)))
            book.put(gate_shown(book.house(), gate))
            # Of a great house the borders of both versions together are looked at.
            both = (fields, groups, gates + (("both",) + gate[1:],))
            look = Looked(both, great)
            new = (fields, groups, gates[:where] + (gate,) + gates[where + 1:] + (("both",) + gates[where][1:],))
            other = Looked(new, great)
            for name in names:
                try:
                    many = len(flat(book.house(0), name)) + len(flat(book.house(1), name))
                except TooMuch:
                    many = 11
                if many > 10:
                    self.refused(TooMuch, book.since, name, 0, 1)
                    continue
                one, two = look.words(name), other.words(name)
                want = next((asking for asking in look.askings if one[asking] != two[asking]), None)
                self.assertEqual(book.since(name, 0, 1), want)
                self.assertEqual(book.since(name, 1, 0), want)


class Files(unittest.TestCase):
    def test_methods_stand_in_the_class(self):
        for method in ("many", "house", "put", "take", "answered", "since"):
            self.assertIn(method, vars(Book))

    def test_defined_in_this_file(self):
        self.assertEqual(Book.__module__, book_file.__name__)
