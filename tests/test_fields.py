import unittest

from gatewright import fields
from gatewright.errors import BadValue
from gatewright.fields import Field, field_of
from tests.odd import odd_lists, odd_numbers, odd_things

NINE = ("ann", "bob", "cy", "d", "eve", "fay", "gus", "hal", "abcdefgh")
PATHS = ("a", "a/b", "a/b/c", "b", "b/a", "ab", "abcdefgh/ijklmnop/qrstuvwx", "c/c/c", "a/c")
PLAINS = [
    ("who", "names", ("ann",)),
    ("who", "names", NINE),
    ("where", "tree", ("a/b/c",)),
    ("where", "tree", PATHS),
    ("many", "number", 0),
    ("many", "number", 1),
    ("many", "number", 100),
    ("many", "number", 10 ** 12),
    ("net", "bits", 1),
    ("net", "bits", 4),
    ("net", "bits", 32),
    ("how", "marks", ("read",)),
    ("how", "marks", ("read", "write", "own")),
    ("how", "marks", ("e", "d", "c", "b", "a")),
    ("at", "clock", None),
]
MOSTS = [0, 8, 0, 8, 0, 1, 100, 10 ** 12, 1, 15, 2 ** 32 - 1, 1, 7, 31, 1439]


class AllKinds(unittest.TestCase):
    def test_plain(self):
        for plain in PLAINS:
            with self.subTest(plain=plain):
                told = field_of(plain).plain()
                self.assertEqual(told, plain)
                self.assertIs(type(told), tuple)
                self.assertIs(type(told[2]), type(plain[2]))

    def test_plain_reads_back(self):
        for plain in PLAINS:
            self.assertEqual(field_of(field_of(plain).plain()).plain(), plain)

    def test_called(self):
        for plain in PLAINS:
            self.assertEqual(field_of(plain).called(), plain[0])
        for name in ("a", "abcdefgh", "zz"):
            for plain in PLAINS:
                self.assertEqual(field_of((name,) + plain[1:]).called(), name)

    def test_most(self):
        for plain, most in zip(PLAINS, MOSTS):
            with self.subTest(plain=plain):
                self.assertEqual(field_of(plain).most(), most)

    def test_there_and_back(self):
        for plain, most in zip(PLAINS, MOSTS):
            field = field_of(plain)
            step = max(1, most // 2000)
            for number in list(range(0, most + 1, step)) + [most]:
                value = field.value_of(number)
                self.assertEqual(field.number_of(value), number)
                self.assertIs(type(field.number_of(value)), int)

    def test_unlike_numbers_unlike_values(self):
        for plain, most in zip(PLAINS, MOSTS):
            if most < 2000:
                values = {field_of(plain).value_of(number) for number in range(most + 1)}
                self.assertEqual(len(values), most + 1)

    def test_no_number(self):
        for plain, most in zip(PLAINS, MOSTS):
            field = field_of(plain)
            wrong = [-1, most + 1, most + 2, -most - 1, "", "0", "a", "ann", "00:00", (), (0,)]
            for number in wrong + odd_numbers() + odd_things() + odd_lists():
                with self.subTest(plain=plain), self.assertRaises(BadValue) as caught:
                    field.value_of(number)
                self.assertIs(type(caught.exception), BadValue)

    def test_no_value(self):
        for plain in PLAINS:
            field = field_of(plain)
            for value in odd_things() + odd_lists() + odd_numbers():
                with self.subTest(plain=plain), self.assertRaises(BadValue) as caught:
                    field.number_of(value)
                self.assertIs(type(caught.exception), BadValue)

    def test_values_of_another_kind(self):
        values = [("names", "ann"), ("tree", "a/b/c"), ("number", 0), ("bits", "0"), ("marks", ("read",)),
                  ("clock", "00:00")]
        for plain in PLAINS:
            for kind, value in values:
                if kind != plain[1]:
                    with self.subTest(plain=plain, value=value), self.assertRaises(BadValue):
                        field_of(plain).number_of(value)

    def test_a_refusal_changes_nothing(self):
        for plain, most in zip(PLAINS, MOSTS):
            field = field_of(plain)
            for thing in (None, "zz", [], -1, most + 1):
                with self.assertRaises(BadValue):
                    field.value_of(thing)
                if thing != "zz" or plain[1] != "names":
                    with self.assertRaises(BadValue):
                        field.number_of(thing)
            self.assertEqual(field.plain(), plain)
            self.assertEqual(field.number_of(field.value_of(most)), most)

    def test_fields_do_not_share(self):
        one = field_of(("who", "names", ("ann", "bob")))
        other = field_of(("what", "names", ("bob", "cy", "ann")))
        self.assertEqual((one.number_of("ann"), other.number_of("ann")), (0, 2))
        self.assertEqual((one.plain()[0], other.plain()[0]), ("who", "what"))

    def test_what_is_handed_in_is_not_kept(self):
        for kind in ("names", "tree", "marks"):
            things = ["a", "b"]
            field = field_of(("who", kind, things))
            things.append("c")
            self.assertEqual(field.plain(), ("who", kind, ("a", "b")))
            self.assertEqual(field.most(), 3 if kind == "marks" else 1)


class Names(unittest.TestCase):
    def test_numbered_as_told(self):
        field = field_of(("who", "names", NINE))
        for place, name in enumerate(NINE):
            self.assertEqual(field.number_of(name), place)
            self.assertEqual(field.value_of(place), name)
        self.assertEqual(field_of(("who", "names", ("bob", "ann"))).number_of("bob"), 0)

    def test_no_value(self):
        field = field_of(("who", "names", NINE))
        for value in ("", "an", "annn", "Ann", " ann", "ann ", "ann\n", "zed", "ann/bob", "0", 0, 1, ("ann",)):
            with self.subTest(value=value), self.assertRaises(BadValue):
                field.number_of(value)


class Tree(unittest.TestCase):
    def test_numbered_as_told(self):
        field = field_of(("where", "tree", PATHS))
        for place, path in enumerate(PATHS):
            self.assertEqual(field.number_of(path), place)
            self.assertEqual(field.value_of(place), path)

    def test_no_value(self):
        field = field_of(("where", "tree", PATHS))
        for value in ("", "/", "a/", "/a", "a//b", "a/b/", "c", "c/c", "b/b", "A", ("a", "b"), ("a",), 0, 1):
            with self.subTest(value=value), self.assertRaises(BadValue):
                field.number_of(value)


class Number(unittest.TestCase):
    def test_itself(self):
        field = field_of(("many", "number", 10 ** 12))
        for number in (0, 1, 2, 999, 10 ** 11, 10 ** 12 - 1, 10 ** 12):
            self.assertEqual(field.number_of(number), number)
            self.assertEqual(field.value_of(number), number)

    def test_no_value(self):
        field = field_of(("many", "number", 100))
        for value in (-1, 101, 102, 1000, "5", "", "0", (5,), [5], True, False, None):
            with self.subTest(value=value), self.assertRaises(BadValue):
                field.number_of(value)
        with self.assertRaises(BadValue):
            field_of(("many", "number", 0)).number_of(1)


class Bits(unittest.TestCase):
    def test_first_sign_counts_most(self):
        field = field_of(("net", "bits", 4))
        told = [field.value_of(number) for number in range(16)]
        self.assertEqual(told[:6], ["0000", "0001", "0010", "0011", "0100", "0101"])
        self.assertEqual(told[8:10] + told[14:], ["1000", "1001", "1110", "1111"])
        self.assertEqual([field.number_of(value) for value in told], list(range(16)))

    def test_narrow_and_wide(self):
        one = field_of(("net", "bits", 1))
        self.assertEqual([one.value_of(0), one.value_of(1)], ["0", "1"])
        wide = field_of(("net", "bits", 32))
        self.assertEqual(wide.value_of(0), "0" * 32)
        self.assertEqual(wide.value_of(1), "0" * 31 + "1")
        self.assertEqual(wide.value_of(2 ** 31), "1" + "0" * 31)
        self.assertEqual(wide.value_of(2 ** 32 - 1), "1" * 32)
        self.assertEqual(wide.number_of("1" * 32), 2 ** 32 - 1)
        self.assertEqual(wide.number_of("1" + "0" * 31), 2 ** 31)

    def test_no_value(self):
        field = field_of(("net", "bits", 4))
        wrong = ["", "0", "010", "01010", "0" * 32, "012 ", "0120", "01 1", " 101", "101 ", "+101", "-101", "0b11",
                 "1_01", "01*", "010*", "010\n", "\u0660101", "\uff10101", 5, 101, 1010, ("0", "1", "0", "1"), ["0101"],
                 ("0101",), b"0101", True, None]
        for value in wrong:
            with self.subTest(value=value), self.assertRaises(BadValue):
                field.number_of(value)


class Marks(unittest.TestCase):
    def test_first_mark_counts_one(self):
        field = field_of(("how", "marks", ("read", "write", "own")))
        told = [(), ("read",), ("write",), ("read", "write"), ("own",), ("read", "own"), ("write", "own"),
                ("read", "write", "own")]
        for number, value in enumerate(told):
            self.assertEqual(field.value_of(number), value)
            self.assertIs(type(field.value_of(number)), tuple)
            self.assertEqual(field.number_of(value), number)

    def test_order_is_as_told(self):
        field = field_of(("how", "marks", ("e", "d", "c", "b", "a")))
        self.assertEqual(field.number_of(("e",)), 1)
        self.assertEqual(field.number_of(("a",)), 16)
        self.assertEqual(field.number_of(("e", "d", "c", "b", "a")), 31)
        self.assertEqual(field.value_of(17), ("e", "a"))

    def test_no_value(self):
        field = field_of(("how", "marks", ("read", "write", "own")))
        wrong = [("write", "read"), ("own", "read"), ("own", "write"), ("read", "own", "write"), ("read", "read"),
                 ("own", "own"), ("read", "write", "write"), ("read", "write", "own", "own"),
                 ("read", "write", "own", "read"), ("zap",), ("",), ("read", "zap"), ("zap", "own"),
                 ["read"], [], ["read", "write"], "read", "", "+read", "-", {"read"}, {"read": 1}, 0, 1, 7, None, True,
                 (("read",),), (["read"],), (1,), (0,), (None,), (True,), ("read", None), ("read", 2), (b"read",)]
        for value in wrong:
            with self.subTest(value=value), self.assertRaises(BadValue):
                field.number_of(value)
        for thing in odd_things() + odd_lists():
            with self.assertRaises(BadValue):
                field.number_of((thing,))
            with self.assertRaises(BadValue):
                field.number_of(("read", thing))


class Clock(unittest.TestCase):
    def test_each_minute(self):
        field = field_of(("at", "clock", None))
        number = 0
        for hours in range(24):
            for minutes in range(60):
                value = str(hours).zfill(2) + ":" + str(minutes).zfill(2)
                self.assertEqual(field.number_of(value), number)
                self.assertEqual(field.value_of(number), value)
                number += 1
        self.assertEqual(number, 1440)

    def test_borders(self):
        field = field_of(("at", "clock", None))
        told = [(0, "00:00"), (1, "00:01"), (59, "00:59"), (60, "01:00"), (425, "07:05"), (1439, "23:59")]
        for number, value in told:
            self.assertEqual(field.number_of(value), number)
            self.assertEqual(field.value_of(number), value)

    def test_no_value(self):
        field = field_of(("at", "clock", None))
        wrong = ["", ":", "24:00", "23:60", "00:60", "29:00", "99:99", "7:05", "07:5", "007:05", "07:005", "0705",
                 "07.05", "07-05", "07 05", "07:05 ", " 07:05", "07:05\n", " 7:05", "07: 5", "+7:05", "07:+5", "-1:00",
                 "07:-5", "-0:00", "1_:00", "0a:00", "00:0a", "::::::", ":::::", "00::0", "07:05:00", "7:050",
                 "\u0660\u0667:05", "07:0\u0665", "\u00b20:00", "00:\u00b20", "\uff10\uff10:00",
                 0, 1, 425, 705, (7, 5), ("07", "05"), ["07:05"], ("07:05",), b"07:05", None, True, False]
        for value in wrong:
            with self.subTest(value=value), self.assertRaises(BadValue):
                field.number_of(value)


class Kinds(unittest.TestCase):
    def test_one_class_for_each_kind_under_field(self):
        kinds = {}
        for plain in PLAINS:
            field = field_of(plain)
            self.assertIsInstance(field, Field)
            kinds.setdefault(plain[1], set()).add(type(field))
        self.assertEqual(len(kinds), 6)
        found = set().union(*kinds.values())
        self.assertEqual(len(found), 6)
        self.assertEqual(found, set(Field.__subclasses__()))
        self.assertNotIn(Field, found)

    def test_methods_stand_in_each_class(self):
        for one in [Field] + Field.__subclasses__():
            for method in ("plain", "called", "most", "number_of", "value_of"):
                with self.subTest(one=one, method=method):
                    self.assertIn(method, vars(one))

    def test_defined_in_this_file(self):
        for one in [Field, field_of] + Field.__subclasses__():
            self.assertEqual(one.__module__, fields.__name__)
