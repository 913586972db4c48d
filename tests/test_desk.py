import random
import unittest

from gatewright import desk
from gatewright.book import Book
from gatewright.desk import answer, play
from gatewright.errors import BadText, TooMuch
from gatewright.house import house_of
from gatewright.reading import read
from gatewright.showing import gate_shown, shown
from gatewright.walking import flat
from tests.chances import KINDS, gate_by_chance, great_house_by_chance, house_by_chance
from tests.looks import Looked
from tests.odd import odd_lists, odd_numbers, odd_things

HIGH = 10 ** 12
FIELDS = """field who names ann bob cy
field how marks read write own
field many number 1000000000000
field at clock
group who crew cy ann
"""
TEXT = FIELDS + """gate door first
let who:crew how:+read-own
refuse many:100.. at:22:00..05:59
gate yard refusals
pass door at:!07:05
let many:5
gate lock narrow
let
refuse who:ann"""
OTHER = """field where tree a a/b b
field net bits 4
gate one first
let where:a/ net:01*
gate two first
pass one
refuse net:*"""
FIVE = "let who:ann ; refuse many:5 ; let who:bob many:1..3 ; let ; refuse"
SIX = FIVE + " ; let who:!crew"


def wholes(book):
    return [book.house(version).plain() for version in range(book.many())]


def written(field, value):
    """A value as a line writes it."""
    if field[1] == "number":
        return str(value)
    if field[1] == "marks":
        return "".join("+" + mark for mark in value) or "-"
    return value


def values(plain, asking):
    return " ".join(written(field, value) for field, value in zip(plain[0], asking))


class Case(unittest.TestCase):
    def told(self, book, pairs):
        for line, want in pairs:
            with self.subTest(line=line):
                self.assertEqual(answer(book, line), want)

    def refused(self, book, want, lines):
        before = wholes(book)
        for line in lines:
            with self.subTest(line=line):
                self.assertEqual(answer(book, line), want)
        self.assertEqual(wholes(book), before)


class Answers(Case):
    def test_ask(self):
        self.told(Book(TEXT), [
            ("ask door ann +read 5 07:05", "let by door 0"),
            ("ask door cy +read+write 5 23:00", "let by door 0"),
            ("ask door bob - 100 22:00", "refuse by door 1"),
            ("ask door bob - 99 22:00", "none"),
            ("ask yard ann +read 0 07:04", "let by yard 0 door 0"),
            ("ask yard ann +read 0 07:05", "none"),
            ("ask yard ann +read+own 5 07:04", "let by yard 1"),
            ("ask yard bob - 1000000000000 00:00", "refuse by yard 0 door 1"),
            ("ask lock ann +read+write+own 0 00:00", "refuse by lock 1"),
            ("ask lock bob - 0 00:00", "let by lock 0"),
        ])

    def test_ask_through_several_gates(self):
        lines = ["put gate cellar first ; pass yard ; let how:-read", "put gate attic first ; refuse many:7 ; pass cellar",
                 "ask attic ann +read 0 08:00", "ask attic ann +read 7 08:00", "ask attic ann - 8 08:00"]
        self.assertEqual(play(TEXT, lines), ["1", "2", "let by attic 1 cellar 0 yard 0 door 0", "refuse by attic 0",
                                             "let by attic 1 cellar 1"])

    def test_reason(self):
        self.told(Book(TEXT), [
            ("reason door ann +read 5 07:05", "who how"),
            ("reason door ann +read 100 23:00", "who how"),
            ("reason door ann +own 5 23:00", "how many"),
            ("reason door cy +own 1000 23:00", "how many at"),
            ("reason door bob +read 5 07:05", "who many"),
            ("reason door bob - 100 07:05", "who at"),
            ("reason lock ann - 0 00:00", "who"),
        ])
        book = Book(TEXT)
        answer(book, "put gate all first ; let who:ann ; let")
        self.told(book, [("reason all ann - 0 00:00", "nothing")])

    def test_differ(self):
        self.told(Book(TEXT), [
            ("differ door yard", "ann - 5 00:00"),
            ("differ yard door", "ann - 5 00:00"),
            ("differ door door", "alike"),
            ("differ door lock", "ann - 0 00:00"),
        ])
        book = Book(TEXT)
        answer(book, "put gate rest first ; pass door ; let who:bob many:1000000000000 how:+read+own at:12:00")
        self.told(book, [("differ rest door", "bob +read+own 1000000000000 12:00")])

    def test_since(self):
        book = Book(TEXT)
        self.told(book, [("since door 0", "alike"), ("put gate door first ; let who:crew how:+read-own", "1"),
                         ("since door 0", "ann - 100 00:00"), ("since door 1", "alike"),
                         ("since yard 0", "ann - 100 00:00"), ("since lock 0", "alike"),
                         ("put gate door first ; let who:crew how:+read-own many:1..", "2"),
                         ("since door 1", "ann +read 0 00:00"), ("since door 0", "ann - 100 00:00"), ("since door 2", "alike")])

    def test_count(self):
        all_of, each = 3 * 8 * (HIGH + 1) * 1440, 8 * (HIGH + 1) * 1440
        self.told(Book(TEXT), [("count lock", f"let {all_of - each} refuse {each} none 0")])
        book = Book(FIELDS + "gate a first")
        self.told(book, [("count a", f"let 0 refuse 0 none {all_of}"), ("put gate a first ; let many:7 at:00:00 who:bob", "1"),
                         ("count a", f"let 8 refuse 0 none {all_of - 8}")])

    def test_lean(self):
        book = Book(TEXT)
        self.told(book, [("lean door", "0 1"), ("lean yard", "0 1"), ("lean lock", "0 1"),
                         ("put gate a first ; let who:ann ; let who:bob ; let who:!cy ; refuse who:cy ; refuse", "1"),
                         ("lean a", "0 1 3"), ("put gate a first", "2"), ("lean a", "nothing"),
                         ("put gate a first ; refuse who:!ann|bob|cy", "3"), ("lean a", "nothing")])

    def test_put_take_and_versions(self):
        book = Book(TEXT)
        self.told(book, [("versions", "1"), ("take yard", "1"), ("versions", "2"), ("put gate new first", "2"), ("versions", "3"),
                         ("put gate door narrow ; refuse", "3"), ("ask door ann - 0 00:00", "refuse by door 0"),
                         ("take new", "4"), ("take lock", "5"), ("versions", "6")])
        self.assertEqual(book.house().gates(), ["door"])
        self.assertEqual(book.house().gate("door"), ("door", "narrow", (("refuse", None, ()),)))
        self.assertEqual(book.house(0).plain(), read(TEXT).plain())

    def test_put_rows(self):
        book = Book(TEXT)
        self.told(book, [("put gate new first ; let who:ann|bob at:!22:00..05:59 ; pass yard ; refuse", "1")])
        self.assertEqual(gate_shown(book.house(), book.house().gate("new")),
                         "gate new first\nlet who:ann|bob at:!22:00..05:59\npass yard\nrefuse")
        self.told(book, [("put # a remark ; gate new first # of this row ; let # who:ann ; # ; refuse", "2")])
        self.assertEqual(book.house().gate("new"), ("new", "first", (("let", None, ()), ("refuse", None, ()))))

    def test_other_kinds_of_values(self):
        book = Book(OTHER)
        self.told(book, [("ask one a/b 0101", "let by one 0"), ("ask one b 0101", "none"), ("ask two a 0111", "let by two 0 one 0"),
                         ("ask two b 0000", "refuse by two 1"), ("differ one two", "a 0000"), ("reason one a 1000", "net"),
                         ("reason one b 0111", "where"), ("reason one a/b 0111", "where net"), ("count one", "let 8 refuse 0 none 40")])


class Values(Case):
    def test_marks(self):
        book = Book(TEXT)
        told = ["-", "+read", "+write", "+read+write", "+own", "+read+own", "+write+own", "+read+write+own"]
        for word in told:
            self.told(book, [(f"ask lock bob {word} 0 00:00", "let by lock 0")])
            self.told(book, [(f"put gate new first ; pass lock ; let who:bob how:{self.alone(word)}", str(book.many()))])
        for word in ["+", "++read", "+read+", "read", "+write+read", "+read+read", "-read", "+read-write", "+zed", "--", "+-",
                     "-+read", "read+write", "()", "+read,+write", "+READ", "+read|+write", "*"]:
            self.refused(book, "refused asking", [f"ask lock bob {word} 0 00:00", f"reason lock bob {word} 0 00:00"])

    def alone(self, word):
        return "".join(("+" if "+" + mark in word else "-") + mark for mark in ("read", "write", "own"))

    def test_numbers(self):
        book = Book(TEXT)
        for word in ("0", "7", "10", "1000000000000", "999999999999"):
            self.told(book, [(f"ask lock bob - {word} 00:00", "let by lock 0")])
        for word in ["00", "07", "007", "+7", "-0", "-7", "1000000000001", "9999999999999", "10000000000000", "1" * 5000, "7.0", "7.",
                     "1e3", "0x7", "1_000", "five", "None", "True", "..", "5..5", "5;", "\u0665", "\uff15", "\u00b2"]:
            self.refused(book, "refused asking", [f"ask lock bob - {word} 00:00", f"reason lock bob - {word} 00:00"])

    def test_words_bits_and_clocks(self):
        book = Book(TEXT)
        for word in ["crew", "zed", "Ann", "an", "anna", "who", "ann,", "*"]:
            self.refused(book, "refused asking", [f"ask lock {word} - 0 00:00", f"reason lock {word} - 0 00:00"])
        for word in ["24:00", "00:60", "7:05", "07:5", "0705", "00:00..00:01", "07:05:00", "425", "now"]:
            self.refused(book, "refused asking", [f"ask lock bob - 0 {word}", f"reason lock bob - 0 {word}"])
        book = Book(OTHER)
        for word in ["01", "01*", "*", "01011", "0102", "5", "4"]:
            self.refused(book, "refused asking", [f"ask one a {word}", f"reason two a {word}"])
        for word in ["a/", "/", "c", "a/b/", "A", "b/a"]:
            self.refused(book, "refused asking", [f"ask one {word} 0101", f"reason two {word} 0101"])

    def test_each_value_of_each_kind_goes_round(self):
        chance = random.Random(121)
        for _ in range(80):
            plain = house_by_chance(chance, KINDS, 4, 4, 0)
            book = Book(shown(house_of((plain[0], plain[1], (("a", "first", ()), ("b", "first", ()))))))
            house = book.house()
            for _ in range(5):
                asking = house.asking(tuple(chance.randint(0, field.most()) for field in house.fields()))
                told = values(plain, asking)
                self.told(book, [("ask a " + told, "none"), ("reason a " + told, "nothing")])
                rules = (("let", None, tuple((field[0], False, (self.atom(field, value),)) for field, value in zip(plain[0], asking))),)
                answer(book, "put " + gate_shown(house, ("b", "first", rules)).replace("\n", " ; "))
                self.told(book, [("differ a b", told), ("differ b a", told), ("since b 0", told), ("ask b " + told, "let by b 0")])

    def atom(self, field, value):
        name, kind, things = field
        if kind == "number":
            return ("from", value, value)
        if kind == "marks":
            return ("marks", value, tuple(mark for mark in things if mark not in value))
        if kind == "clock":
            minute = int(value[:2]) * 60 + int(value[3:])
            return ("clock", minute, minute)
        return ({"names": "name", "tree": "path", "bits": "first"}[kind], value)


class Refusals(Case):
    def test_other_lines(self):
        self.refused(Book(TEXT), "refused line", [
            "", " ", "  ", "zed", "Ask door ann - 0 00:00", "ASK", "asks door ann - 0 00:00", "# versions", "version", "put", "ask", "reason",
            "differ", "since", "count", "lean", "take", "gate door first", "let", "house", "many", "play", "answer", "door", "get", "versions;",
            "ask door", "ask door ann", "ask door ann - 0", "ask door ann - 0 00:00 x", "reason door", "reason door ann - 0 00:00 1",
            "differ door", "differ door yard lock", "since door", "since door 0 0", "since 0", "count", "count door yard", "lean door 0",
            "lean lean lean", "take door yard", "versions 0", "versions versions", "\u0430sk door ann - 0 00:00"])

    def test_blanks(self):
        lines = ["ask door ann - 0 00:00", "reason door ann - 0 00:00", "differ door yard", "since door 0", "count door", "lean door",
                 "take lock", "versions", "put gate new first ; let", "put gate new first", "zed", "take zed", "put"]
        wrong = []
        for line in lines:
            wrong.extend([" " + line, line + " ", "  " + line, line + "  ", " " + line + " "])
            for at, sign in enumerate(line):
                if sign == " ":
                    wrong.append(line[:at] + " " + line[at:])
        wrong.extend(["put ", "put  ", "put gate new first ;  let", "put gate new first  ; let", "put gate new first ; ",
                      "put gate new first ;  ; let", "put  ; gate new first", "put gate new first # two  blanks", "versions ", " versions"])
        self.refused(Book(TEXT), "refused line", wrong)

    def test_what_is_no_text(self):
        book = Book(TEXT)
        self.refused(book, "refused line", odd_things() + odd_lists() + odd_numbers() + [("versions",), ["versions"], b"versions"])

    def test_gates(self):
        book = Book(TEXT)
        for name in ("zed", "who", "Door", "doors", "crew", "0", "first", "door,", ";", "+door", "abcdefghijk", "None"):
            self.refused(book, "refused gate", [
                f"ask {name} ann - 0 00:00", f"reason {name} ann - 0 00:00", f"differ {name} door", f"differ door {name}",
                f"differ {name} {name}", f"since {name} 0", f"count {name}", f"lean {name}", f"take {name}"])
        self.told(book, [("put gate new first", "1"), ("take lock", "2")])
        self.refused(book, "refused gate", ["since new 0", "since lock 0", "since lock 1", "ask lock ann - 0 00:00", "count lock", "take lock"])
        self.told(book, [("since new 1", "alike"), ("since new 2", "alike")])

    def test_versions(self):
        book = Book(TEXT)
        self.told(book, [("put gate door first", "1")])
        for word in ("2", "3", "9999", "10000", "00", "01", "0000", "-1", "+0", "-0", "1.0", "x", "None", "True", "newest", "1;", "\u0661", "\u00b9"):
            self.refused(book, "refused version", [f"since door {word}", f"since yard {word}"])
        self.told(book, [("since door 1", "alike"), ("since door 0", "ann - 100 00:00")])

    def test_versions_of_four_figures(self):
        book = Book("field a number 3\ngate a first")
        for number in range(10001):
            book.put("gate a first\nlet a:" + str(number % 4))
        self.told(book, [("versions", "10002"), ("since a 999", "0"), ("since a 1000", "0"), ("since a 9999", "0"), ("since a 0", "0")])
        # Versions of five figures are there, but aren't written.
        self.refused(book, "refused version", ["since a 10000", "since a 10001", "since a 09999", "since a 00000", "since a 10002"])

    def test_texts(self):
        book = Book(TEXT)
        self.refused(book, "refused text", [
            "put x", "put gate", "put gate new", "put gate new last", "put gate New first", "put gate new first let", "put let",
            "put gate new first ; let who:zed", "put gate new first ; pass new", "put gate door first ; pass yard", "put gate yard first ; pass lock",
            "put gate new first ; gate newer first", "put gate new first ; let ; let ; let ; let ; let ; let ; let ; let ; let",
            "put gate new first ; pass door ; pass door ; pass door", "put field x clock ; gate new first", "put gate new first;let",
            "put gate new first ;let", "put gate new first; let", "put ; gate new first", "put gate new first ;", "put ;", "put ; ;",
            "put gate new first ; let\twho:ann", "put # gate new first", "put gate new first ; # \u0025", "put gate new first ; ; let",
            "put put gate new first", "put gate new first ; let many:05", "put gate new first ; let who:ann who:bob"])
        self.told(book, [("put gate four first", "1"), ("put gate five first", "2")])
        self.refused(book, "refused text", ["put gate six first", "put gate six first ; let"])
        self.told(book, [("put gate five first ; pass four", "3")])

    def test_use(self):
        book = Book(TEXT)
        self.refused(book, "refused use", ["take door"])
        self.told(book, [("take yard", "1"), ("take door", "2")])
        self.refused(book, "refused use", ["take lock"])
        self.refused(book, "refused gate", ["take door"])

    def test_much(self):
        book = Book(FIELDS + "gate a first\nlet")
        self.told(book, [("put gate six first ; " + SIX, "1"), ("put gate much first ; pass six ; pass six", "2"),
                         ("put gate five first ; " + FIVE, "3")])
        self.refused(book, "refused much", [
            "reason much ann - 0 00:00", "count much", "lean much", "differ much a", "differ a much", "differ six five", "differ five six",
            "differ six six", "since much 2", "since six 1", "since six 3", "differ much much"])
        self.told(book, [("ask much ann - 0 00:00", "let by much 0 six 0"), ("ask much bob - 5 00:00", "refuse by much 0 six 1"),
                         ("differ five five", "alike"), ("lean six", "0 1 3"), ("differ a six", "bob - 5 00:00"),
                         ("reason six ann - 0 00:00", "who"), ("since five 3", "alike")])

    def test_how_many_words_is_looked_at_first(self):
        self.refused(Book(TEXT), "refused line", [
            "ask zed zed", "ask zed zed - 0 00:00 x", "ask zed ann - 0", "reason zed zed 1", "differ zed", "differ zed zed zed", "since zed 9 9",
            "since zed", "count zed zed", "lean zed zed", "take zed zed", "versions zed", "take", "take door door"])

    def test_then_from_the_left(self):
        book = Book(TEXT)
        answer(book, "put gate six first ; " + SIX.replace("let who:ann", "let who:ann ; refuse who:cy"))
        answer(book, "put gate much first ; pass six ; pass six")
        self.refused(book, "refused gate", [
            "ask zed zed + 07 24:00", "reason zed zed - 0 00:00", "since zed 9", "since zed 007", "since zed x", "differ zed much",
            "differ much zed", "ask zed ann - 0 00:00"])
        self.refused(book, "refused asking", ["ask much zed - 0 00:00", "reason much zed - 0 00:00", "reason much ann - 0 24:00",
                                              "ask much ann - 07 00:00", "reason much ann + 0 00:00"])
        self.refused(book, "refused version", ["since much 99", "since much 00", "since six x"])
        self.refused(book, "refused much", ["since much 2", "reason much ann - 0 00:00"])
        # The gate is there, but in the newest version alone.
        self.refused(book, "refused gate", ["since much 0", "since much 1", "since six 0"])

    def test_a_gate_that_is_gone_ahead_of_its_version(self):
        book = Book(TEXT)
        self.told(book, [("take yard", "1")])
        self.refused(book, "refused gate", ["since yard 0", "since yard 1", "since yard 2", "since yard x"])


class Play(Case):
    lines = ["versions", "take lock", "zed", "put gate door narrow ; let who:ann|bob", "put gate door first ; pass yard", "count door",
             "since door 0", "since yard 1", "ask yard bob - 5 07:05", "reason yard bob - 5 07:05", "lean yard", "differ yard door", "", "versions",
             "since door 3", "take yard", "take door", "versions", "differ door door"]

    def test_the_same_as_answer(self):
        book = Book(TEXT)
        told = play(TEXT, self.lines)
        self.assertIs(type(told), list)
        self.assertEqual(told, [answer(book, line) for line in self.lines])
        self.assertEqual([told[at] for at in (0, 1, 2, 3, 4, 12, 13, 14, 15, 16, 17, 18)],
                         ["1", "1", "refused line", "2", "refused text", "refused line", "3", "refused version", "3", "refused use", "4", "alike"])
        for one in told:
            self.assertIs(type(one), str)

    def test_the_same_lines_come_to_the_same_answers(self):
        lines = list(self.lines)
        told = play(TEXT, lines)
        self.assertEqual(lines, self.lines)
        play(TEXT, lines).clear()
        self.assertEqual(play(TEXT, lines), told)
        lines.clear()
        self.assertEqual((told, play(TEXT, lines)), (play(TEXT, self.lines), []))

    def test_what_is_refused_changes_nothing(self):
        wrong = ["put gate door first ; pass door", "take door", "zed", "", "since door 9", "count zed", "put", "ask door", None, 7, ["versions"]]
        lines = []
        for line in self.lines:
            lines.extend(wrong)
            lines.append(line)
        told = play(TEXT, lines)
        each = len(wrong) + 1
        self.assertEqual(told[len(wrong)::each][:15], play(TEXT, self.lines)[:15])
        self.assertTrue(all(one.startswith("refused ") for at, one in enumerate(told[:15 * each]) if at % each != len(wrong)))

    def test_bad_texts(self):
        for text, line in (("", 2), ("field at clock", 2), (TEXT + "\nlet zed:1", 15), (TEXT + "\n\n\tlet", 16)):
            for ask in (lambda: play(text, ["versions"]), lambda: play(text, []), lambda: Book(text)):
                with self.assertRaises(BadText) as caught:
                    ask()
                self.assertIs(type(caught.exception), BadText)
                self.assertEqual(caught.exception.line, line)
        for thing in odd_things() + odd_lists() + odd_numbers():
            with self.assertRaises(BadText) as caught:
                play(thing, ["versions"])
            self.assertEqual(caught.exception.line, 0)


class ByChance(Case):
    """Each line against a look at every asking."""

    def much(self, house, *names):
        try:
            return sum(len(flat(house, name)) for name in names) > 10
        except TooMuch:
            return True

    def looked_through(self, chance, plain, look):
        book = Book(shown(house_of(plain)))
        house = book.house()
        words = {name: look.words(name) for name in house.gates()}
        for name in house.gates():
            for asking in chance.sample(look.askings, min(4, len(look.askings))):
                told = values(plain, asking)
                word, way = look.answered(name, asking)
                want = "none" if word is None else word + " by " + " ".join(f"{gate} {place}" for gate, place in way)
                reason = " ".join(look.reason(words[name], asking)) or "nothing"
                self.told(book, [(f"ask {name} {told}", want),
                                 (f"reason {name} {told}", "refused much" if self.much(house, name) else reason)])
            if self.much(house, name):
                self.told(book, [(f"count {name}", "refused much"), (f"lean {name}", "refused much")])
            else:
                many = [look.many(lambda one: words[name][one] == word) for word in ("let", "refuse", None)]
                places = " ".join(str(place) for place in look.lean(name)) or "nothing"
                self.told(book, [(f"count {name}", "let {} refuse {} none {}".format(*many)), (f"lean {name}", places)])
            for other in house.gates():
                first = look.first(lambda one: words[name][one] != words[other][one])
                want = "alike" if first is None else values(plain, first)
                self.told(book, [(f"differ {name} {other}", "refused much" if self.much(house, name, other) else want)])
        self.assertEqual(wholes(book), [plain])

    def test_small_houses(self):
        chance = random.Random(122)
        for _ in range(25):
            plain = house_by_chance(chance, KINDS[:5], 3, 2, 4)
            self.looked_through(chance, plain, Looked(plain))

    def test_great_houses(self):
        chance = random.Random(123)
        for _ in range(20):
            plain = great_house_by_chance(chance)
            self.looked_through(chance, plain, Looked(plain, True))

    def test_put_and_take(self):
        chance = random.Random(124)
        for _ in range(40):
            fields, groups, gates = plain = house_by_chance(chance, KINDS, 3, 3, 4)
            book, other = Book(shown(house_of(plain))), Book(shown(house_of(plain)))
            for _ in range(6):
                names = book.house().gates()
                name = chance.choice(names)
                if chance.random() < 0.3:
                    passed_to = name in [rule[1] for gate in book.house().plain()[2] for rule in gate[2]] or len(names) == 1
                    self.told(book, [("take " + name, "refused use" if passed_to else str(book.many()))])
                    if not passed_to:
                        other.take(name)
                    continue
                gate = gate_by_chance(chance, name, fields, groups, names[:names.index(name)], 4)
                text = gate_shown(book.house(), gate)
                self.told(book, [("put " + text.replace("\n", " ; "), str(book.many()))])
                other.put(text)
            self.assertEqual(wholes(book), wholes(other))


class Files(unittest.TestCase):
    def test_defined_in_this_file(self):
        for one in (answer, play):
            self.assertEqual(one.__module__, desk.__name__)
