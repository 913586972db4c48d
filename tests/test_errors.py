import unittest

from gatewright import errors

PLAIN = ("BadSet", "BadValue", "NoGate", "NoRule", "TooMuch", "NoName", "Ring", "NoVersion", "InUse")
WITH_FIELD = (("BadText", "line"), ("BadAsking", "place"), ("BadWish", "place"))


def all_names():
    return list(PLAIN) + [name for name, field in WITH_FIELD]


class Classes(unittest.TestCase):
    def test_gate_error_is_a_value_error(self):
        self.assertEqual(errors.GateError.__bases__, (ValueError,))

    def test_each_stands_straight_under_gate_error(self):
        for name in all_names():
            with self.subTest(name=name):
                self.assertEqual(getattr(errors, name).__bases__, (errors.GateError,))

    def test_none_under_another(self):
        for name in all_names():
            with self.subTest(name=name):
                self.assertEqual(getattr(errors, name).__subclasses__(), [])

    def test_no_others(self):
        told = sorted(one.__name__ for one in errors.GateError.__subclasses__())
        self.assertEqual(told, sorted(all_names()))

    def test_defined_in_this_file(self):
        for name in all_names() + ["GateError"]:
            with self.subTest(name=name):
                self.assertEqual(getattr(errors, name).__module__, "gatewright.errors")

    def test_caught_as_gate_error_and_as_value_error(self):
        for name in all_names():
            for over in (errors.GateError, ValueError):
                with self.subTest(name=name, over=over):
                    with self.assertRaises(over):
                        raise getattr(errors, name)()


class Fields(unittest.TestCase):
    def test_field_is_what_is_handed_in(self):
        for name, field in WITH_FIELD:
            for number in (-1, 0, 1, 7, 20000):
                with self.subTest(name=name, number=number):
                    self.assertEqual(getattr(getattr(errors, name)(number), field), number)

    def test_field_is_set_on_each(self):
        self.assertEqual(errors.BadText().line, 0)
        self.assertEqual(errors.BadAsking().place, -1)
        self.assertEqual(errors.BadWish().place, -1)

    def test_field_belongs_to_one_object(self):
        one, other = errors.BadText(3), errors.BadText(4)
        self.assertEqual((one.line, other.line), (3, 4))

    def test_field_of_what_is_caught(self):
        for name, field in WITH_FIELD:
            with self.subTest(name=name):
                with self.assertRaises(errors.GateError) as caught:
                    raise getattr(errors, name)(5)
                self.assertEqual(getattr(caught.exception, field), 5)

    def test_message_is_a_text(self):
        for name, _ in WITH_FIELD:
            self.assertNotEqual(str(getattr(errors, name)(2)), "")
