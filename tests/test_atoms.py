import itertools
import random
import unittest

from gatewright import atoms
from gatewright.atoms import Atom, atom_of, condition_set
from gatewright.fields import field_of
from gatewright.folk import Folk
from gatewright.sets import need_set
from tests.chances import KINDS, PATHS, PEOPLE, atom_by_chance, condition_by_chance, field_by_chance, groups_by_chance
from tests.looks import set_by_look, values_of

HIGH = 10 ** 12
ALL = [
    ("name", "ann"), ("path", "a/b"), ("under", "a/b"), ("under", ""), ("from", 5, 9), ("from", None, 9),
    ("from", 5, None), ("from", None, None), ("from", 0, 0), ("first", "01"), ("first", ""),
    ("marks", ("read",), ("own",)), ("marks", (), ("own",)), ("clock", 425, 425), ("clock", 1320, 359),
]


def folk_of(field, groups):
    """Folk of a field with the groups told of it, None where it has no names."""
    if field[1] != "names":
        return None
    folk = Folk(list(field[2]))
    for of, group, members in groups:
        if of == field[0]:
            for member in members:
                folk.put(group, member)
    return folk


def set_of_atom(field, atom, groups=()):
    return atom_of(atom).set_in(field_of(field), folk_of(field, groups))


def looked(field, atom, groups=()):
    return set_by_look(field, groups, (field[0], False, (atom,)))


class EachWord(unittest.TestCase):
    def same_as_looked(self, field, atom, groups=()):
        with self.subTest(field=field, atom=atom, groups=groups):
            told = set_of_atom(field, atom, groups)
            self.assertIsNone(need_set(field_of(field).most(), told))
            self.assertEqual(told, looked(field, atom, groups))

    def test_name(self):
        field = ("who", "names", ("cy", "ann", "bob"))
        self.assertEqual(set_of_atom(field, ("name", "cy")), ((0, 0),))
        self.assertEqual(set_of_atom(field, ("name", "bob")), ((2, 2),))
        for name in field[2]:
            self.same_as_looked(field, ("name", name))

    def test_name_of_a_group(self):
        field = ("who", "names", ("cy", "ann", "bob", "dan"))
        groups = (("who", "crew", ("bob", "cy")), ("who", "top", ("dan", "crew")), ("who", "all", ("top", "ann", "bob")),
                  ("what", "crew", ("ann",)))
        self.assertEqual(set_of_atom(field, ("name", "crew"), groups), ((0, 0), (2, 2)))
        self.assertEqual(set_of_atom(field, ("name", "top"), groups), ((0, 0), (2, 3)))
        self.assertEqual(set_of_atom(field, ("name", "all"), groups), ((0, 3),))
        for name in field[2] + ("crew", "top", "all"):
            self.same_as_looked(field, ("name", name), groups)

    def test_name_of_an_empty_group(self):
        folk = Folk(["ann", "bob"])
        folk.put("crew", "ann")
        folk.take("crew", "ann")
        field = field_of(("who", "names", ("ann", "bob")))
        self.assertEqual(atom_of(("name", "crew")).set_in(field, folk), ())

    def test_path(self):
        field = ("where", "tree", PATHS)
        for path in PATHS:
            self.same_as_looked(field, ("path", path))
        self.assertEqual(set_of_atom(field, ("path", "a")), ((0, 0),))
        self.assertEqual(set_of_atom(field, ("path", "c/c")), ((8, 8),))

    def test_under(self):
        field = ("where", "tree", PATHS)
        for path in PATHS + ("", "c", "zz", "a/b/c", "a/b/d", "b/a/a", "a/a", "abc", "abcdefgh/x/y"):
            self.same_as_looked(field, ("under", path))
        self.assertEqual(set_of_atom(field, ("under", "a")), ((0, 2),))
        self.assertEqual(set_of_atom(field, ("under", "a/b")), ((1, 2),))
        self.assertEqual(set_of_atom(field, ("under", "b")), ((4, 6),))

    def test_under_of_nothing_is_all(self):
        self.assertEqual(set_of_atom(("where", "tree", PATHS), ("under", "")), ((0, 8),))
        self.assertEqual(set_of_atom(("where", "tree", ("a/b",)), ("under", "")), ((0, 0),))

    def test_under_a_path_that_is_none_of_the_fields(self):
        field = ("where", "tree", PATHS)
        self.assertEqual(set_of_atom(field, ("under", "c")), ((7, 8),))
        self.assertEqual(set_of_atom(field, ("under", "zz")), ())
        self.assertEqual(set_of_atom(field, ("under", "a/b/d")), ())
        self.assertEqual(set_of_atom(("where", "tree", ("ab", "abc/a")), ("under", "a")), ())

    def test_from_small(self):
        for most in range(6):
            ends = list(range(most + 1)) + [None]
            for low, high in itertools.product(ends, ends):
                if low is None or high is None or low <= high:
                    self.same_as_looked(("many", "number", most), ("from", low, high))

    def test_from_great(self):
        field = ("many", "number", HIGH)
        told = [(("from", 0, HIGH), ((0, HIGH),)), (("from", None, None), ((0, HIGH),)),
                (("from", HIGH, HIGH), ((HIGH, HIGH),)), (("from", HIGH, None), ((HIGH, HIGH),)),
                (("from", None, 0), ((0, 0),)), (("from", 1, None), ((1, HIGH),)),
                (("from", None, HIGH - 1), ((0, HIGH - 1),)), (("from", 17, HIGH // 2), ((17, HIGH // 2),))]
        for atom, want in told:
            self.assertEqual(set_of_atom(field, atom), want)

    def test_first_small(self):
        for wide in range(1, 6):
            for many in range(wide + 1):
                for signs in itertools.product("01", repeat=many):
                    self.same_as_looked(("net", "bits", wide), ("first", "".join(signs)))

    def test_first_of_32(self):
        field = ("net", "bits", 32)
        last = 2 ** 32 - 1
        told = [("", 0, last), ("0", 0, 2 ** 31 - 1), ("1", 2 ** 31, last), ("01", 2 ** 30, 2 ** 31 - 1),
                ("1" * 32, last, last), ("0" * 32, 0, 0), ("1" * 31, last - 1, last), ("0" * 31, 0, 1),
                ("0" * 31 + "1", 1, 1), ("1" + "0" * 30, 2 ** 31, 2 ** 31 + 1)]
        for bits, low, high in told:
            self.assertEqual(set_of_atom(field, ("first", bits)), ((low, high),))

    def test_marks_each(self):
        for many in (1, 2, 3):
            field = ("how", "marks", ("read", "own", "write")[:many])
            for wanted in itertools.product((0, 1, 2), repeat=many):
                on = tuple(mark for mark, one in zip(field[2], wanted) if one == 1)
                off = tuple(mark for mark, one in zip(field[2], wanted) if one == 2)
                if on or off:
                    self.same_as_looked(field, ("marks", on, off))

    def test_five_marks(self):
        field = ("how", "marks", ("e", "d", "c", "b", "a"))
        for wanted in itertools.product((0, 1, 2), repeat=5):
            on = tuple(mark for mark, one in zip(field[2], wanted) if one == 1)
            off = tuple(mark for mark, one in zip(field[2], wanted) if one == 2)
            if on or off:
                self.same_as_looked(field, ("marks", on, off))
        self.assertEqual(set_of_atom(field, ("marks", ("a",), ())), ((16, 31),))
        self.assertEqual(set_of_atom(field, ("marks", field[2], ())), ((31, 31),))
        self.assertEqual(set_of_atom(field, ("marks", (), field[2])), ((0, 0),))

    def test_clock_in_a_day(self):
        field = ("at", "clock", None)
        for begin, end in ((0, 0), (0, 1439), (1439, 1439), (425, 425), (425, 426), (0, 1438), (1, 1439), (60, 119)):
            self.assertEqual(set_of_atom(field, ("clock", begin, end)), ((begin, end),))
            self.same_as_looked(field, ("clock", begin, end))

    def test_clock_round_midnight(self):
        field = ("at", "clock", None)
        self.assertEqual(set_of_atom(field, ("clock", 1320, 359)), ((0, 359), (1320, 1439)))
        self.assertEqual(set_of_atom(field, ("clock", 1439, 0)), ((0, 0), (1439, 1439)))
        for begin, end in ((1439, 1437), (1439, 1438), (2, 0), (1, 0), (720, 719), (720, 718)):
            self.same_as_looked(field, ("clock", begin, end))

    def test_clock_to_the_minute_ahead_of_its_begin_is_all(self):
        field = ("at", "clock", None)
        for begin in (1, 2, 720, 1438, 1439):
            self.assertEqual(set_of_atom(field, ("clock", begin, begin - 1)), ((0, 1439),))

    def test_by_chance(self):
        chance = random.Random(12)
        for _ in range(400):
            field = field_by_chance(chance, "who", chance.choice(KINDS), 5)
            groups = groups_by_chance(chance, (field,), 9)
            self.same_as_looked(field, atom_by_chance(chance, field, groups), groups)


class Anew(unittest.TestCase):
    def test_plain(self):
        for plain in ALL:
            with self.subTest(plain=plain):
                told = atom_of(plain).plain()
                self.assertEqual(told, plain)
                self.assertIs(type(told), tuple)
                self.assertEqual([type(one) for one in told], [type(one) for one in plain])
                self.assertEqual(atom_of(told).plain(), plain)

    def test_asked_again(self):
        chance = random.Random(13)
        for _ in range(60):
            plain = field_by_chance(chance, "who", chance.choice(KINDS))
            groups = groups_by_chance(chance, (plain,), 9)
            told = atom_by_chance(chance, plain, groups)
            field, folk, atom = field_of(plain), folk_of(plain, groups), atom_of(told)
            first = atom.set_in(field, folk)
            self.assertEqual(atom.set_in(field, folk), first)
            self.assertEqual(atom_of(atom.plain()).set_in(field, folk), first)
            self.assertEqual(atom_of(told).set_in(field_of(plain), folk_of(plain, groups)), first)
            self.assertEqual(atom.plain(), told)
            self.assertIs(type(first), tuple)

    def test_one_atom_for_several_fields(self):
        one = atom_of(("from", 2, None))
        for most in (9, 2, 100, 9):
            self.assertEqual(one.set_in(field_of(("many", "number", most)), None), ((2, most),))
        under = atom_of(("under", "a"))
        self.assertEqual(under.set_in(field_of(("where", "tree", ("b", "a/c"))), None), ((1, 1),))
        self.assertEqual(under.set_in(field_of(("where", "tree", ("a", "b"))), None), ((0, 0),))

    def test_goes_by_the_groups_as_they_are(self):
        field, folk, atom = field_of(("who", "names", ("ann", "bob", "cy"))), Folk(["ann", "bob", "cy"]), None
        folk.put("crew", "cy")
        folk.put("top", "crew")
        atom = atom_of(("name", "top"))
        self.assertEqual(atom.set_in(field, folk), ((2, 2),))
        folk.put("crew", "ann")
        self.assertEqual(atom.set_in(field, folk), ((0, 0), (2, 2)))
        folk.take("top", "crew")
        self.assertEqual(atom.set_in(field, folk), ())
        self.assertEqual(folk.groups(), ["crew", "top"])

    def test_marks_that_were_handed_in(self):
        on, off = ["read"], ["own"]
        atom = atom_of(("marks", tuple(on), tuple(off)))
        on.clear()
        self.assertEqual(atom.plain(), ("marks", ("read",), ("own",)))


class Text(unittest.TestCase):
    def written(self, field, atom, text):
        with self.subTest(atom=atom):
            self.assertEqual(atom_of(atom).text(field_of(field)), text)

    def test_names(self):
        field = ("who", "names", ("ann", "bob"))
        self.written(field, ("name", "ann"), "ann")
        self.written(field, ("name", "crew"), "crew")

    def test_tree(self):
        field = ("where", "tree", PATHS)
        self.written(field, ("path", "a"), "a")
        self.written(field, ("path", "a/b/c"), "a/b/c")
        self.written(field, ("under", "a"), "a/")
        self.written(field, ("under", "zz/y/x"), "zz/y/x/")
        self.written(field, ("under", ""), "/")

    def test_number(self):
        for most in (9, HIGH):
            field = ("many", "number", most)
            self.written(field, ("from", 5, 5), "5")
            self.written(field, ("from", 0, 0), "0")
            self.written(field, ("from", 5, 9), "5..9")
            self.written(field, ("from", 0, 9), "0..9")
            self.written(field, ("from", 5, None), "5..")
            self.written(field, ("from", None, 9), "..9")
            self.written(field, ("from", None, 0), "..0")
            self.written(field, ("from", 0, None), "0..")
            self.written(field, ("from", None, None), "..")
            self.written(field, ("from", most, most), str(most))
            self.written(field, ("from", most, None), str(most) + "..")

    def test_bits(self):
        field = ("net", "bits", 4)
        self.written(field, ("first", "0101"), "0101")
        self.written(field, ("first", "010"), "010*")
        self.written(field, ("first", "0"), "0*")
        self.written(field, ("first", ""), "*")
        self.written(("net", "bits", 1), ("first", "1"), "1")
        self.written(("net", "bits", 5), ("first", "0101"), "0101*")
        self.written(("net", "bits", 32), ("first", "01" * 16), "01" * 16)

    def test_marks(self):
        field = ("how", "marks", ("read", "write", "own"))
        self.written(field, ("marks", ("read",), ()), "+read")
        self.written(field, ("marks", (), ("own",)), "-own")
        self.written(field, ("marks", ("own",), ("read",)), "-read+own")
        self.written(field, ("marks", ("read", "own"), ("write",)), "+read-write+own")
        self.written(field, ("marks", (), ("read", "write", "own")), "-read-write-own")

    def test_clock(self):
        field = ("at", "clock", None)
        self.written(field, ("clock", 425, 425), "07:05")
        self.written(field, ("clock", 0, 0), "00:00")
        self.written(field, ("clock", 1320, 359), "22:00..05:59")
        self.written(field, ("clock", 0, 1439), "00:00..23:59")


class Conditions(unittest.TestCase):
    def test_ordinary(self):
        field = field_of(("many", "number", 9))
        self.assertEqual(condition_set(field, None, False, (("from", 2, 3),)), ((2, 3),))
        self.assertEqual(condition_set(field, None, False, (("from", 2, 3), ("from", 4, 5))), ((2, 5),))
        self.assertEqual(condition_set(field, None, False, (("from", 8, None), ("from", 0, 0))), ((0, 0), (8, 9)))
        self.assertEqual(condition_set(field, None, True, (("from", 2, 3), ("from", 6, 6))), ((0, 1), (4, 5), (7, 9)))
        self.assertEqual(condition_set(field, None, True, (("from", None, None),)), ())
        self.assertEqual(condition_set(field, None, True, (("from", None, 3), ("from", 4, None))), ())

    def test_turned_of_none_is_all(self):
        field = field_of(("where", "tree", ("a", "b")))
        self.assertEqual(condition_set(field, None, False, (("under", "zz"),)), ())
        self.assertEqual(condition_set(field, None, True, (("under", "zz"),)), ((0, 1),))

    def test_great_fields(self):
        field = field_of(("many", "number", HIGH))
        atom_tuples = (("from", HIGH, HIGH), ("from", 0, 5), ("from", 7, 7))
        self.assertEqual(condition_set(field, None, False, atom_tuples), ((0, 5), (7, 7), (HIGH, HIGH)))
        self.assertEqual(condition_set(field, None, True, atom_tuples), ((6, 6), (8, HIGH - 1)))
        bits = field_of(("net", "bits", 32))
        self.assertEqual(condition_set(bits, None, True, (("first", "1"), ("first", "0" * 32))), ((1, 2 ** 31 - 1),))

    def test_by_chance(self):
        chance = random.Random(14)
        for _ in range(600):
            plain = field_by_chance(chance, "who", chance.choice(KINDS), 5)
            groups = groups_by_chance(chance, (plain,), 9)
            name, turned, some = condition_by_chance(chance, plain, groups)
            field, folk = field_of(plain), folk_of(plain, groups)
            told = condition_set(field, folk, turned, some)
            with self.subTest(plain=plain, turned=turned, some=some):
                self.assertIsNone(need_set(field.most(), told))
                self.assertEqual(told, set_by_look(plain, groups, (name, turned, some)))
                mixed = list(some) + [chance.choice(some)]
                chance.shuffle(mixed)
                self.assertEqual(condition_set(field, folk, turned, tuple(mixed)), told)
                self.assertEqual(condition_set(field, folk, turned, some + some), told)

    def test_each_pair_of_people(self):
        field = field_of(("who", "names", PEOPLE))
        folk = Folk(list(PEOPLE))
        for one, other in itertools.product(PEOPLE, PEOPLE):
            told = condition_set(field, folk, False, (("name", one), ("name", other)))
            names = [field.value_of(number) for low, high in told for number in range(low, high + 1)]
            self.assertEqual(names, [name for name in PEOPLE if name in (one, other)])

    def test_goes_by_the_groups_as_they_are(self):
        field, folk = field_of(("who", "names", ("ann", "bob", "cy"))), Folk(["ann", "bob", "cy"])
        some = (("name", "crew"), ("name", "cy"))
        folk.put("crew", "ann")
        self.assertEqual(condition_set(field, folk, False, some), ((0, 0), (2, 2)))
        self.assertEqual(condition_set(field, folk, True, some), ((1, 1),))
        folk.put("crew", "bob")
        self.assertEqual(condition_set(field, folk, False, some), ((0, 2),))
        self.assertEqual(condition_set(field, folk, True, some), ())
        folk.take("crew", "ann")
        self.assertEqual(condition_set(field, folk, True, some), ((0, 0),))
        folk.take("crew", "bob")
        self.assertEqual(condition_set(field, folk, False, some), ((2, 2),))
        self.assertEqual(folk.groups(), ["crew"])


class Classes(unittest.TestCase):
    def test_one_for_each_word_under_atom(self):
        found = {}
        for plain in ALL:
            atom = atom_of(plain)
            self.assertIsInstance(atom, Atom)
            found.setdefault(plain[0], set()).add(type(atom))
        self.assertEqual(len(found), 7)
        classes = set().union(*found.values())
        self.assertEqual(len(classes), 7)
        self.assertEqual(classes, set(Atom.__subclasses__()))

    def test_methods_stand_in_each_class(self):
        for one in [Atom] + Atom.__subclasses__():
            for method in ("plain", "text", "set_in"):
                with self.subTest(one=one, method=method):
                    self.assertIn(method, vars(one))

    def test_defined_in_this_file(self):
        for one in [Atom, atom_of, condition_set] + Atom.__subclasses__():
            self.assertEqual(one.__module__, atoms.__name__)


class Looks(unittest.TestCase):
    def test_values_are_numbered_so(self):
        for plain in (("who", "names", PEOPLE), ("where", "tree", PATHS), ("many", "number", 7), ("net", "bits", 3),
                      ("how", "marks", ("b", "a", "c")), ("at", "clock", None)):
            field = field_of(plain)
            self.assertEqual([field.number_of(value) for value in values_of(plain)], list(range(field.most() + 1)))
