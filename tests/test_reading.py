import random
import unittest

from gatewright import reading
from gatewright.errors import BadText, GateError
from gatewright.house import House, house_of
from gatewright.reading import gate_read, read
from gatewright.showing import gate_shown, shown
from tests.chances import KINDS, gate_by_chance, house_by_chance
from tests.lines import first_bad
from tests.odd import odd_lists, odd_numbers, odd_things

HIGH = 10 ** 12
# Together with OTHER of all six kinds, of all three orders, and with each way to write an atom.
GOOD = """field who names ann bob cy
field where tree a a/b a/b/c b/a
field many number 1000000000000
field at clock
group who crew cy ann
group who top crew bob
gate door first
let who:ann
refuse who:!crew|bob at:22:00..05:59
gate yard refusals
pass door where:a/b|a/|zz/y/|/
let many:5|5..9|5..|..9|..
refuse at:!07:05
gate lock narrow
pass yard
pass door who:top
let"""
PLAIN = (
    (("who", "names", ("ann", "bob", "cy")), ("where", "tree", ("a", "a/b", "a/b/c", "b/a")),
     ("many", "number", HIGH), ("at", "clock", None)),
    (("who", "crew", ("cy", "ann")), ("who", "top", ("crew", "bob"))),
    (("door", "first", (
        ("let", None, (("who", False, (("name", "ann"),)),)),
        ("refuse", None, (("who", True, (("name", "crew"), ("name", "bob"))), ("at", False, (("clock", 1320, 359),)))))),
     ("yard", "refusals", (
         ("pass", "door", (("where", False, (("path", "a/b"), ("under", "a"), ("under", "zz/y"), ("under", ""))),)),
         ("let", None, (("many", False, (("from", 5, 5), ("from", 5, 9), ("from", 5, None), ("from", None, 9),
                                         ("from", None, None))),)),
         ("refuse", None, (("at", True, (("clock", 425, 425),)),)))),
     ("lock", "narrow", (("pass", "yard", ()), ("pass", "door", (("who", False, (("name", "top"),)),)),
                         ("let", None, ())))))
OTHER = """field net bits 4
field how marks read write own
gate one first
let net:0101|01*|*|010* how:+read
refuse how:+read-own|-read+own|-own|+read+write+own|-read-write-own"""
OTHER_PLAIN = (
    (("net", "bits", 4), ("how", "marks", ("read", "write", "own"))), (),
    (("one", "first", (
        ("let", None, (("net", False, (("first", "0101"), ("first", "01"), ("first", ""), ("first", "010"))),
                       ("how", False, (("marks", ("read",), ()),)))),
        ("refuse", None, (("how", False, (
            ("marks", ("read",), ("own",)), ("marks", ("own",), ("read",)), ("marks", (), ("own",)),
            ("marks", ("read", "write", "own"), ()), ("marks", (), ("read", "write", "own")))),)))),))
FIELD = "field who names ann bob\n"


def spread(chance, text):
    """The same text with blanks, remarks and lines that mean nothing."""
    found = []
    for line in text.split("\n"):
        for _ in range(chance.choice((0, 0, 1, 2))):
            found.append(chance.choice(("", "  ", "#", "# field who", "   # gate a first", "##", "#~!$&|:")))
        words = [" " * chance.randint(1, 3) + word for word in line.split(" ")]
        found.append("".join(words)[chance.choice((0, 1)):] + chance.choice(("", " ", "   ", "#", " # let", "#let")))
    return "\n".join(found) + chance.choice(("", "\n", "\n\n", "\n#"))


class Read(unittest.TestCase):
    def test_ordinary(self):
        for text, plain in ((GOOD, PLAIN), (OTHER, OTHER_PLAIN)):
            house = read(text)
            self.assertIsInstance(house, House)
            self.assertEqual(house.plain(), plain)
            self.assertEqual(repr(house.plain()), repr(plain))

    def test_truths(self):
        conditions = read(GOOD).plain()[2][0][2][1][2]
        self.assertIs(conditions[0][1], True)
        self.assertIs(conditions[1][1], False)

    def test_least(self):
        plain = ((("at", "clock", None),), (), (("a", "first", ()),))
        for text in ("field at clock\ngate a first", "field at clock\ngate a first\n", "\n\nfield at clock\n#\ngate a first"):
            self.assertEqual(read(text).plain(), plain)

    def test_blanks_and_remarks(self):
        text = "  field   who names  ann bob   # the people\n#\n   \n\ngate door   first#\n   let\n let   who:ann  who#:\n##"
        with self.assertRaises(BadText):
            read(text)
        text = text.replace("who#:", "#who:")
        plain = ((("who", "names", ("ann", "bob")),), (),
                 (("door", "first", (("let", None, ()), ("let", None, (("who", False, (("name", "ann"),)),)))),))
        self.assertEqual(read(text).plain(), plain)

    def test_a_remark_ends_a_word(self):
        self.assertEqual(read("field who names ann#bob\ngate door first").plain()[0], (("who", "names", ("ann",)),))
        self.assertEqual(read("field who names ann #bob zed# x\ngate a first").plain()[0], (("who", "names", ("ann",)),))

    def test_spread_out(self):
        chance = random.Random(31)
        for text, plain in ((GOOD, PLAIN), (OTHER, OTHER_PLAIN)):
            for _ in range(60):
                self.assertEqual(read(spread(chance, text)).plain(), plain)

    def test_all_that_is_allowed(self):
        nine = "ann bob cy dan eve fay gus hal abcdefgh"
        lines = ["field who names " + nine, "field where tree a b c d e f g h a/b/c", "field how marks a b c d e",
                 "field net bits 32"]
        lines.append("group who a " + nine)
        for group, inner in zip("bcdefghi", "abcdefgh"):
            lines.append("group who " + group + " " + inner)
        for name, ahead in (("one", None), ("two", "one"), ("three", "two"), ("four", "one"), ("five", "four")):
            lines.append("gate " + name + " first")
            lines.extend(["let who:a|b|c|d|e where:!/ how:+e net:*"] * 6)
            lines.extend(["pass " + ahead + " who:i"] * 2 if ahead else ["refuse"] * 2)
        house = read("\n".join(lines))
        self.assertEqual([len(one) for one in house.plain()], [4, 9, 5])
        self.assertEqual([len(gate[2]) for gate in house.plain()[2]], [8] * 5)
        self.assertEqual(house.folk("who").in_it("i"), nine.split())

    def test_names_may_be_words_of_the_lines(self):
        text = "field field names let pass\ngroup field gate let\ngate let first\nlet field:gate\ngate pass first\npass let"
        self.assertEqual(shown(read(text)), text)
        self.assertEqual(read(text).gate("pass"), ("pass", "first", (("pass", "let", ()),)))

    def test_groups_of_two_fields_may_be_named_alike(self):
        text = ("field who names ann bob\nfield what names cy crew\nfield how names bob\ngroup who gang ann\n"
                "group what gang crew\ngroup how ann bob\ngroup who crew gang bob\ngate door first\nlet who:crew what:crew")
        self.assertEqual(shown(read(text)), text)

    def test_atoms_at_their_borders(self):
        told = [
            ("names ann", ["ann", "ann|ann"]),
            ("tree a a/b", ["a", "a/", "a/b", "a/b/", "/", "a/b/c/", "abcdefgh/abcdefgh/abcdefgh/", "z/"]),
            ("number 0", ["0", "..", "0..", "..0"]),
            ("number 9", ["9", "0..9", "8..9", "9..", "..9", "0..1"]),
            ("number 1000000000000", ["1000000000000", "0..1000000000000", "999999999999..1000000000000"]),
            ("bits 1", ["0", "1", "*"]),
            ("bits 32", ["*", "0*", "01" * 16, "1" * 31 + "*"]),
            ("marks a", ["+a", "-a"]),
            ("marks b a", ["+b", "-a", "+b-a", "-b+a"]),
            ("clock", ["00:00", "23:59", "00:00..23:59", "23:59..00:00", "00:01..00:00"]),
        ]
        for kind, atoms in told:
            for atom in atoms:
                for sign in ("", "!"):
                    text = "field who " + kind + "\ngate a first\nlet who:" + sign + atom
                    self.assertEqual(shown(read(text)), text)


class Shown(unittest.TestCase):
    def test_ordinary(self):
        self.assertEqual(shown(house_of(PLAIN)), GOOD)
        self.assertEqual(shown(house_of(OTHER_PLAIN)), OTHER)
        self.assertIs(type(shown(house_of(PLAIN))), str)

    def test_of_a_text_with_more(self):
        chance = random.Random(32)
        for text in (GOOD, OTHER):
            self.assertEqual(shown(read(spread(chance, text))), text)

    def test_reads_as_it(self):
        chance = random.Random(33)
        for _ in range(200):
            plain = house_by_chance(chance, KINDS, 4, chance.randint(1, 5), 8)
            house = house_of(plain)
            text = shown(house)
            self.assertEqual(repr(read(text).plain()), repr(plain))
            self.assertEqual(shown(read(text)), text)
            self.assertEqual(house.plain(), plain)
            self.assertEqual(read(spread(chance, text)).plain(), plain)
            self.assertNotIn("#", text)
            for line in text.split("\n"):
                self.assertEqual(line, " ".join(line.split()))
                self.assertNotEqual(line, "")
            many = sum(len(gate[2]) + 1 for gate in plain[2])
            self.assertEqual(len(text.split("\n")), len(plain[0]) + len(plain[1]) + many)

    def test_gate_shown(self):
        house = house_of(PLAIN)
        self.assertEqual(gate_shown(house, PLAIN[2][0]), "\n".join(GOOD.split("\n")[6:9]))
        self.assertEqual(gate_shown(house, PLAIN[2][1]), "\n".join(GOOD.split("\n")[9:13]))
        self.assertEqual(gate_shown(house, PLAIN[2][2]), "\n".join(GOOD.split("\n")[13:]))
        self.assertEqual(gate_shown(house, ("new", "narrow", ())), "gate new narrow")
        told = ("new", "narrow", (("pass", "new", ()), ("pass", "else", (("at", True, (("clock", 1, 0),)),))))
        self.assertEqual(gate_shown(house, told), "gate new narrow\npass new\npass else at:!00:01..00:00")
        self.assertEqual(house.plain(), PLAIN)


class GateRead(unittest.TestCase):
    def refused(self, line, text, names=(), plain=PLAIN):
        house = house_of(plain)
        with self.assertRaises(BadText) as caught:
            gate_read(house, text, list(names))
        self.assertIs(type(caught.exception), BadText)
        self.assertEqual(caught.exception.line, line)
        self.assertEqual(house.plain(), plain)

    def test_ordinary(self):
        house = house_of(PLAIN)
        for gate in PLAIN[2]:
            text = gate_shown(house, gate)
            self.assertEqual(gate_read(house, text, ["door", "yard"]), gate)
        self.assertEqual(gate_read(house, "gate new first", []), ("new", "first", ()))
        self.assertEqual(house.plain(), PLAIN)

    def test_blanks_and_remarks(self):
        text = "\n# new\n  gate   new  first # a gate\n\n  let who:crew  \n#\n"
        told = ("new", "first", (("let", None, (("who", False, (("name", "crew"),)),)),))
        self.assertEqual(gate_read(house_of(PLAIN), text, []), told)

    def test_a_gate_of_the_house_again(self):
        self.assertEqual(gate_read(house_of(PLAIN), "gate door narrow", ["yard"]), ("door", "narrow", ()))

    def test_passes_to_the_names_alone(self):
        house = house_of(PLAIN)
        text = "gate new first\npass door\npass yard"
        told = ("new", "first", (("pass", "door", ()), ("pass", "yard", ())))
        self.assertEqual(gate_read(house, text, ["yard", "door"]), told)
        self.refused(2, text, [])
        self.refused(2, text, ["yard", "lock"])
        self.refused(3, text, ["door"])
        self.refused(3, text, ["lock", "door"])
        self.refused(2, text, ["doo", "doors", "yard"])

    def test_its_own_name(self):
        house = house_of(PLAIN)
        text = "gate new first\npass new"
        self.assertEqual(gate_read(house, text, ["new"]), ("new", "first", (("pass", "new", ()),)))
        self.refused(2, text, [])
        self.refused(2, text, ["door", "yard", "lock"])
        self.refused(2, "gate door first\npass door", [])
        self.assertEqual(gate_read(house, "gate door first\npass door", ["door"])[2], (("pass", "door", ()),))

    def test_names_that_are_no_gates_of_the_house(self):
        told = gate_read(house_of(OTHER_PLAIN), "gate new first\npass zed\npass zed", ["zed"])
        self.assertEqual(told, ("new", "first", (("pass", "zed", ()), ("pass", "zed", ()))))

    def test_the_list_is_the_askers(self):
        names = ["door", "new"]
        gate_read(house_of(PLAIN), "gate new first\npass door", names)
        self.assertEqual(names, ["door", "new"])

    def test_refused(self):
        self.refused(2, "")
        self.refused(3, "\n")
        self.refused(4, "# a\n\n  ")
        self.refused(1, "let")
        self.refused(1, "field x clock\ngate new first")
        self.refused(2, "gate new first\nfield x clock")
        self.refused(1, "group who more ann\ngate new first")
        self.refused(2, "gate new first\ngroup who more ann")
        self.refused(2, "gate new first\ngate other first")
        self.refused(3, "gate new first\nlet\ngate new first")
        self.refused(4, "gate new first\n\nlet\n gate new first\nlet zap")
        self.refused(1, "gate New first")
        self.refused(1, "gate new fist")
        self.refused(1, "gate new")
        self.refused(1, "gate new first first")
        self.refused(1, "gate abcdefghi first")
        self.refused(2, "gate new first\nlet who:zed")
        self.refused(2, "gate new first\nlet what:ann")
        self.refused(2, "gate new first\nlet who:ann who:bob")
        self.refused(2, "gate new first\nzap")
        self.refused(2, "gate new first\n\tlet")
        self.refused(2, "gate new first\n#\t")
        self.refused(10, "gate new first" + "\nlet" * 9)
        self.refused(5, "gate new first" + "\npass door" * 2 + "\nlet\npass door", ["door"])

    def test_no_str(self):
        for thing in odd_things() + odd_lists() + odd_numbers() + [(), ("gate new first",), ["gate new first"]]:
            self.refused(0, thing, ["door"])

    def test_by_chance(self):
        chance = random.Random(34)
        for _ in range(100):
            plain = house_by_chance(chance, KINDS, 4, 4, 4)
            house, names = house_of(plain), ["new", "zed"] + [gate[0] for gate in plain[2]]
            gate = gate_by_chance(chance, "new", plain[0], plain[1], names)
            text = gate_shown(house, gate)
            self.assertEqual(gate_read(house, spread(chance, text), names), gate)
            wanted = [rule[1] for rule in gate[2] if rule[0] == "pass"]
            for name in wanted:
                line = text.split("\n").index([one for one in text.split("\n") if one.startswith("pass " + name)][0])
                self.refused(line + 1, text, [one for one in names if one != name], plain)


class Refused(unittest.TestCase):
    def refused(self, line, text):
        with self.subTest(text=text):
            with self.assertRaises(BadText) as caught:
                read(text)
            self.assertIs(type(caught.exception), BadText)
            self.assertIsInstance(caught.exception, GateError)
            self.assertEqual(caught.exception.line, line)
            self.assertIs(type(caught.exception.line), int)

    def bad_lines(self, ahead, lines, behind="\ngate last first"):
        """Each of the lines is bad behind what is ahead, whatever comes behind it."""
        many = len(ahead.split("\n"))
        for line in lines:
            for rest in ("", behind, "\nzap", "\n"):
                self.refused(many, ahead + line + rest)

    def good_lines(self, ahead, lines, behind="\ngate last first"):
        for line in lines:
            self.assertIsInstance(read(ahead + line + behind), House)

    def bad_atoms(self, kind, atoms):
        ahead = "field x " + kind + "\ngate door first\nlet\nlet "
        self.bad_lines(ahead, [sign + atom for atom in atoms for sign in ("x:", "x:!")])

    def test_no_str(self):
        for thing in odd_things() + odd_lists() + odd_numbers() + [(), (GOOD,), [GOOD], GOOD.encode(), {GOOD: GOOD}]:
            self.refused(0, thing)

    def test_no_gate(self):
        self.refused(2, "")
        self.refused(2, " ")
        self.refused(2, "# gate door first")
        self.refused(3, "\n")
        self.refused(4, "\n\n")
        self.refused(2, "field who names ann")
        self.refused(3, "field who names ann\n")
        self.refused(5, "field who names ann\ngroup who crew ann\n# gate door first\n")

    def test_ends(self):
        self.assertIsInstance(read(GOOD + "\n"), House)
        self.assertIsInstance(read(GOOD + "\n\n  \n#"), House)
        self.refused(18, GOOD + "\nzap")
        self.refused(19, GOOD + "\n\nzap\n")

    def test_no_field(self):
        self.bad_lines("", ["gate door first", "let", "group who crew ann", "refuse", "pass door"])
        self.bad_lines("\n#\n", ["gate door first", "let"])

    def test_other_words(self):
        for ahead in ("", FIELD, FIELD + "group who crew ann\n", FIELD + "gate door first\n",
                      FIELD + "gate door first\nlet\n"):
            self.bad_lines(ahead, ["zap", "Let", "LET", "lets", "le", "Field who names ann", "fields x clock", "gates",
                                   "let:", "!", "-", "who:ann", "ann", "house", "0", ":", "|", "Gate a first"])

    def test_signs(self):
        for ahead in ("", FIELD, FIELD + "gate door first\nlet "):
            for sign in ("\t", "%", "\x00", "\r", "\x0b", "\x7f", "\u00e9", "\u0661", "\u2028", "\x1c", "\x1f"):
                self.bad_lines(ahead, [sign, "#" + sign, "  # a remark " + sign + " and more"])
        self.refused(1, GOOD.replace("ann bob", "ann\tbob"))
        self.refused(1, "\t" + GOOD)
        self.refused(17, GOOD + "\t")
        self.refused(17, GOOD + " # 5%")
        self.refused(18, GOOD + "\n\t")
        signs = "".join(chr(number) for number in range(32, 127) if number != 37)
        self.assertEqual(read(GOOD + "#" + signs + "\n# " + signs).plain(), PLAIN)

    def test_fields(self):
        self.bad_lines("", ["field", "field who", "field who names", "field Who names ann", "field abcdefghi names ann",
                            "field w1 names ann", "field a/b names ann", "field who name ann", "field who Names ann",
                            "field who what ann", "field who ann bob", "field names ann bob", "field who: names ann",
                            "field who path a", "field who from 5", "field who first 5"])
        self.bad_lines(FIELD, ["field who names cy", "field who clock", "field who number 5"])
        self.good_lines(FIELD, ["field a names ann bob", "field abcdefgh clock"])

    def test_names_and_marks(self):
        for kind, most in (("names", 9), ("marks", 5)):
            ahead = "field who " + kind + " "
            letters = "a b c d e f g h i j".split(" ")
            self.good_lines(ahead, [" ".join(letters[:most]), "abcdefgh", "a"])
            self.bad_lines(ahead, ["", " ".join(letters[:most + 1]), "a a", "a b c a", "Ann", "abcdefghi", "a1", "a/b",
                                   "+a", "a-b", "a,b", "a, b", "ann:", "5", "!", "*", "a b C", "_"])

    def test_trees(self):
        ahead = "field where tree "
        self.good_lines(ahead, ["a", "a/b/c a/b a", "a/a/a", "abcdefgh/abcdefgh/abcdefgh", "a b c d e f g h a/a"])
        self.bad_lines(ahead, ["", "a b c d e f g h i j", "a a", "a/b a a/b", "/", "/a", "a/", "a//b", "a/b/", "a/b/c/d",
                               "A", "a/B", "abcdefghi", "a/abcdefghi", "a/b/c1", "a.b", "a\\b", "5", "a/5"])

    def test_numbers(self):
        self.good_lines("field many number ", ["0", "1", "10", "999999999999", "1000000000000"])
        self.bad_lines("field many number ", ["", "00", "01", "007", "-1", "+1", "1000000000001", "9999999999999",
                                              "10000000000000", "1_0", "1.0", "1e3", "a", "5 6", "5..", "9" * 14, "9" * 99,
                                              "9" * 5000, "0" * 13, "0" * 5000 + "1"])

    def test_bits(self):
        self.good_lines("field net bits ", ["1", "2", "31", "32"])
        self.bad_lines("field net bits ", ["", "0", "33", "01", "032", "-1", "+1", "a", "8 8", "0101", "1*", "9" * 5000])

    def test_clock(self):
        self.bad_lines("field at clock ", ["0", "00:00", "a", "1439", "None", "clock"])

    def test_a_fifth_field(self):
        ahead = "field a clock\nfield b clock\nfield c clock\nfield d clock\n"
        self.bad_lines(ahead, ["field e clock", "field e", "field a clock"])

    def test_groups(self):
        ahead = "field who names ann bob\nfield what names cy\nfield at clock\ngroup who crew bob\ngroup what gang cy\n"
        self.good_lines(ahead, ["group who top crew", "group who gang crew ann bob", "group what crew gang", "group who cy ann",
                                "group what ann cy gang", "group who abcdefgh ann"])
        self.bad_lines(ahead, ["group", "group who", "group who top", "group top ann", "group zed top ann", "group at top ann",
                               "group at top 00:00", "group who ann bob", "group who crew ann", "group who top cy",
                               "group who top gang", "group who top top", "group who top ann top", "group who top late",
                               "group who top ann ann", "group who top ann bob ann", "group who top Ann", "group who Top ann",
                               "group who abcdefghi ann", "group who t1 ann", "group who top ann|bob", "group who:top ann",
                               "group who top !ann", "group what cy cy", "group crew top ann"])

    def test_members_told_later(self):
        self.refused(2, FIELD + "group who top crew\ngroup who crew ann\ngate door first")

    def test_a_tenth_member(self):
        ahead = "field who names a b c d e f g h i\ngroup who j a\ngroup who k "
        self.good_lines(ahead, ["a b c d e f g h i", "b c d e f g h i j"])
        self.bad_lines(ahead, ["a b c d e f g h i j"])

    def test_a_tenth_group(self):
        ahead = FIELD + "".join("group who " + name + " ann\n" for name in "abcdefghi")
        self.good_lines(ahead, ["gate door first"])
        self.bad_lines(ahead, ["group who j ann", "group who a ann", "group"])

    def test_gates(self):
        ahead = FIELD + "gate door first\nlet\n"
        self.good_lines(ahead, ["gate who first", "gate ann refusals", "gate a narrow", "gate abcdefgh first"], "")
        self.bad_lines(ahead, ["gate", "gate yard", "gate yard first first", "gate yard last", "gate yard First",
                               "gate yard refusal", "gate yard narrow: ", "gate first yard", "gate Yard first",
                               "gate abcdefghi first", "gate y2 first", "gate door first", "gate door narrow",
                               "gate yard let", "gate yard:first", "gate first"])

    def test_a_sixth_gate(self):
        ahead = FIELD + "".join("gate " + name + " first\nlet\n" for name in "abcde")
        self.assertIsInstance(read(ahead), House)
        self.bad_lines(ahead, ["gate f first", "gate a first", "gate"])

    def test_rules(self):
        ahead = FIELD + "gate door first\nlet\ngate yard first\n"
        self.good_lines(ahead, ["let", "refuse", "pass door", "let who:ann", "pass door who:ann"])
        self.bad_lines(ahead, ["pass", "pass yard", "pass late", "pass Door", "pass who:ann", "pass who:ann door",
                               "let door", "let None", "refuse door who:ann", "let ann", "let who", "let who:", "let :ann",
                               "let :", "let who:ann bob", "let who: ann", "let who :ann", "let what:ann", "let Who:ann",
                               "let who:ann,bob", "let who:ann|", "let who:|ann", "let who:|", "let who:ann||bob", "let who:!",
                               "let who:!!ann", "let who:ann|!bob", "let !who:ann", "let who:!ann|", "let who:ann:bob",
                               "let who=ann", "let who:ann!", "let door:ann", "let who::ann", "let who:zed"])

    def test_passes_to_gates_told_ahead(self):
        self.refused(3, FIELD + "gate door first\npass yard\ngate yard first")
        self.refused(3, FIELD + "gate door first\npass door")
        self.refused(5, FIELD + "gate door first\nlet\ngate yard first\npass yard")
        text = FIELD + "gate door first\ngate yard first\npass door\ngate lock first\npass door\npass yard"
        self.assertEqual(shown(read(text)), text)

    def test_a_ninth_rule(self):
        ahead = FIELD + "gate door first\ngate yard first\n" + "let\n" * 8
        self.good_lines(ahead, ["gate lock first\nlet"])
        self.bad_lines(ahead, ["let", "refuse who:ann", "pass door", "zap"])

    def test_a_third_rule_that_passes(self):
        ahead = FIELD + "gate door first\ngate yard first\npass door\nlet\npass door who:ann\n"
        self.good_lines(ahead, ["let", "gate lock first\npass yard\npass door"])
        self.bad_lines(ahead, ["pass door", "pass door who:bob", "pass"])

    def test_a_second_condition_for_a_field(self):
        ahead = "field a names x y\nfield b clock\ngate door first\nlet "
        self.good_lines(ahead, ["a:x b:00:00", "b:00:00 a:x|y"])
        self.bad_lines(ahead, ["a:x a:y", "a:x a:x", "a:x b:00:00 a:y", "b:00:00 a:x b:!00:00", "a:x !a:y"])
        self.refused(9, GOOD.replace("at:22:00", "who:22:00"))
        self.refused(9, GOOD.replace("at:22:00..05:59", "at:22:00 who:ann"))
        self.refused(16, GOOD.replace("pass door who:top", "pass door who:top who:!top"))

    def test_a_sixth_atom(self):
        ahead = FIELD + "gate door first\nlet who:"
        five = "ann|bob|ann|ann|bob"
        self.good_lines(ahead, [five, "!" + five, "ann|ann"])
        self.bad_lines(ahead, [five + "|ann", "!" + five + "|bob", five + "|"])

    def test_lines_out_of_order(self):
        self.bad_lines(FIELD + "group who crew ann\n", ["field at clock", "let"])
        self.bad_lines(FIELD + "gate door first\n", ["field at clock", "group who crew ann"])
        self.bad_lines(FIELD + "gate door first\nlet\n", ["field at clock", "group who crew ann", "field who names ann"])

    def test_atoms_of_names(self):
        self.bad_atoms("names ann bob", ["", "zed", "an", "annn", "Ann", "a", "5", "..", "/", "*", "ann/", "+ann", "-ann",
                                         "ann..bob", "00:00", "ann-bob"])
        ahead = "field x names ann\nfield y names bob\ngroup y crew bob\ngate door first\nlet "
        self.bad_lines(ahead, ["x:crew", "x:bob", "y:ann", "y:x"])

    def test_atoms_of_trees(self):
        self.bad_atoms("tree a a/b", ["", "b", "a/c", "ab", "a/b/c", "a/b/c/d/", "//", "/a", "/a/", "a//", "a//b/", "A/", "a1/",
                                      "abcdefghi/", "5", "..", "*", "a*", "+a", "a..", "a/b//", "./", "a/B/"])

    def test_atoms_of_numbers(self):
        self.bad_atoms("number 9", ["", "10", "05", "00", "-1", "+5", "a", "5..5", "0..0", "9..9", "7..5", "5..10", "10..",
                                    "..10", "05..9", "5..09", "..09", "00..", "5.9", "5...9", "...", "....", ".", "5..7..9",
                                    "5-9", "5*", "*", "/", "..9..", "9..5", "1_0", "a..b", "5..a", "a..5", "9" * 14,
                                    "9" * 5000, "0.." + "9" * 5000, "0" * 5000 + ".."])
        self.bad_atoms("number 1000000000000", ["1000000000001", "9999999999999", "0..1000000000001",
                                                "1000000000000..1000000000000", "01000000000000", "10000000000000"])
        self.bad_atoms("number 0", ["1", "0..0", "..1", "1..", "0..1"])

    def test_atoms_of_bits(self):
        self.bad_atoms("bits 4", ["", "010", "01010", "0101*", "01010*", "012*", "01a1", "0120", "**", "0*1", "*1", "01**",
                                  "0..1", "..", "5", "+0", "/", "0b01", "2*", "-*"])
        self.bad_atoms("bits 1", ["0*", "00", "01", "2"])
        self.bad_atoms("bits 32", ["0" * 33, "0" * 31, "0" * 32 + "*", "0" * 33 + "*"])

    def test_atoms_of_marks(self):
        self.bad_atoms("marks read own", ["", "read", "+", "-", "+zed", "-zed", "+own+read", "-own-read", "+own-read",
                                          "+read+read", "+read-read", "-read+read", "+read+own+own", "+read-own+read",
                                          "read+own", "++read", "+-read", "+read+", "+read-", "-", "+Read", "+read,own",
                                          "*", "/", "..", "5", "+read/", "+readown", "+rea"])

    def test_atoms_of_clocks(self):
        self.bad_atoms("clock", ["", "7:05", "07:5", "24:00", "23:60", "0705", "07:05..", "..07:05", "..", "07:05..07:05",
                                 "00:00..00:00", "07:05...08:00", "07:05-08:00", "07:05..08:00..09:00", "425", "07:05..24:00",
                                 "24:00..07:05", "07", "07:05:00", "*", "/", "+a", "a", "07:05.08:00", "07:0a"])

    def test_atoms_of_another_kind(self):
        kinds = {"names ann": "ann", "tree a/b": "a/b", "number 9": "5..9", "bits 2": "0*", "marks read": "+read",
                 "clock": "07:05"}
        for kind in kinds:
            self.good_lines("field x " + kind + "\ngate door first\nlet x:", [kinds[kind]])
            self.bad_atoms(kind, [atom for other, atom in kinds.items() if other != kind])

    def test_the_first_bad_line_counts(self):
        lines = GOOD.split("\n")
        for number in range(1, len(lines) + 1):
            broken = lines[:number - 1] + ["zap"] + lines[number:]
            self.refused(number, "\n".join(broken))
            self.refused(number, "\n".join(broken[:number] + ["zap"] * 3))
            self.refused(number + 2, "\n\n" + "\n".join(broken))


class Mixed(unittest.TestCase):
    """Texts that were spoilt by chance, against a second reader made of patterns."""

    def told(self, text):
        try:
            house = read(text)
        except BadText as fault:
            return fault.line
        self.assertEqual(read(shown(house)).plain(), house.plain())
        return None

    def spoilt(self, chance, text):
        lines = text.split("\n")
        at = chance.randrange(len(lines))
        kind = chance.randrange(7)
        if kind == 0:
            lines.insert(chance.randrange(len(lines) + 1), lines[at])
        elif kind == 1:
            lines.pop(at)
        elif kind == 2:
            other = chance.randrange(len(lines))
            lines[at], lines[other] = lines[other], lines[at]
        elif kind == 3:
            words, from_line = lines[at].split(" "), chance.choice(lines).split(" ")
            words[chance.randrange(len(words))] = chance.choice(from_line)
            lines[at] = " ".join(words)
        elif kind == 4:
            words = lines[at].split(" ")
            words.insert(chance.randrange(len(words) + 1), chance.choice(words + ["first", "let", "5", "ann", "a/b"]))
            lines[at] = " ".join(words)
        else:
            place, sign = chance.randint(0, len(lines[at])), chance.choice("ab0159:|!/*+-.# \t%" + text)
            lines[at] = lines[at][:place] + sign + lines[at][place + chance.choice((0, 1)):]
        return "\n".join(lines)

    def test_spoilt(self):
        chance = random.Random(35)
        bad = 0
        for _ in range(250):
            text = chance.choice((GOOD, OTHER, shown(house_of(house_by_chance(chance, KINDS, 4, 4, 8)))))
            for _ in range(10):
                spoilt = self.spoilt(chance, text)
                line = first_bad(spoilt)
                with self.subTest(text=spoilt):
                    self.assertEqual(self.told(spoilt), line)
                bad += line is not None
                if chance.random() < 0.5:
                    text = spoilt
        self.assertGreater(bad, 500)

    def test_what_is_ahead_of_the_first_bad_line_is_good(self):
        chance = random.Random(36)
        for _ in range(300):
            lines = self.spoilt(chance, GOOD).split("\n")
            line = self.told("\n".join(lines))
            if line is not None and line <= len(lines):
                self.assertIn(self.told("\n".join(lines[:line - 1] + [""])), (None, line + 1))
                self.assertEqual(self.told("\n".join(lines[:line] + ["zap"])), line)


class Files(unittest.TestCase):
    def test_defined_in_their_files(self):
        for one in (read, gate_read):
            self.assertEqual(one.__module__, reading.__name__)
